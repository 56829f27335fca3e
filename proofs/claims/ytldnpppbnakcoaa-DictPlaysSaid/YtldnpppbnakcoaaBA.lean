/- Layer 9: what the program's Back calls: reaches, endWith. Condition: the block is such a dictionary (Pd9). -/
import Derived.Test.YtldnpppbnakcoaaD9Z
namespace Go.Proofs.Ytldnpppbnakcoaa
open Go.RowKit
set_option linter.unusedVariables false

abbrev fnOver (M : Nat) : Value := .func (.func 53) #[] #[.pointer (some ⟨M, 0, none⟩)]
theorem over_calls {w : World} {q M : Nat} {a : We} {pr : Option Nat} {b : Int} (h : WoAt w q a pr) (hM : w.cell? ⟨M, 1, none⟩ = some (.int .i64 b)) : Calls Try.prog 53 #[PtW q, .pointer (some ⟨M, 0, none⟩)] w fun e w' => e = .returned (.bool (decide (b < a.l))) ∧ ∃ n, w' = w.drewN n := by
  have c3 := h.c3
  obtain ⟨l, hl⟩ : ∃ l, l = a.l := ⟨_, rfl⟩
  rw [← hl] at c3 ⊢
  clear h hl
  go_enter Try.func53, Try.ntmps53
  go_wp2_with fail
  go_quiet (fail)
  go_wp2_with fail
  go_ret
  exact ⟨rfl, _, rfl⟩
/-- The pointers to the words Q, in this order, lie where a slice begins. -/
def PtsAt (w : World) (A : Option Addr) (Q : List (Nat × We)) : Prop := ∀ i (hi : i < Q.length), ∃ g o pr, A = some ⟨g, o, none⟩ ∧ w.cell? ⟨g, o + i, none⟩ = some (PtW Q[i].1) ∧ WoAt w Q[i].1 Q[i].2 pr
def anyOver (b : Int) (Q : List (Nat × We)) : Bool := Q.any fun z => decide (b < z.2.l)
set_option maxHeartbeats 1000000 in
theorem idxP_calls {w : World} {A : Option Addr} {n cap M : Nat} {b : Int} {Q : List (Nat × We)} (hQ : PtsAt w A Q) (hn : n = Q.length) (hb : n ≤ 1000000) (hM : w.cell? ⟨M, 1, none⟩ = some (.int .i64 b)) :
    Calls Try.prog 58 #[.slice A n cap, fnOver M] w fun e w' => ∃ r : Int, e = .returned (.int .i64 r) ∧ decide (0 ≤ r) = anyOver b Q ∧ ∃ k, w' = w.drewN k := by
  have HQ := Lib.hid hQ
  have HN := Lib.hid hn
  have HM := Lib.hid hM
  have hbI : (n : Int) ≤ 1000000 := by omega
  clear hQ hn hM
  go_enter Try.func58, Try.ntmps58
  go_wp2_with fail
  go_loopw [8] (fun z wr => ∃ k m : Nat, z = .int .i64 (k : Int) ∧ k ≤ n ∧ wr = w.drewN m ∧ RowKit.Hid (∀ j (hj : j < Q.length), j < k → decide (b < Q[j].2.l) = false)) (fun z _ => n - (intOf z).toNat)
  case atStart => exact ⟨0, 0, rfl, by omega, rfl, Lib.hid (fun j hj hk => by omega)⟩
  case round =>
    obtain ⟨k, m, rfl, hkn, rfl, hi⟩ := hrel
    by_cases hlt : k < n
    · have hltI : (k : Int) < (n : Int) := by omega
      have hkl : k < Q.length := by rw [← HN.out]; exact hlt
      obtain ⟨g, o, pr, rfl, hc, hwo⟩ := HQ.out k hkl
      have md : Mod [] w (w.drewN m) := (Mod.refl [] w).drewN m
      have K1 := Lib.hid (over_calls (hwo.mod md (by simp)) (md.cell (by simp) HM.out))
      obtain ⟨y, hy⟩ : ∃ y, y = Q[k].1 := ⟨_, rfl⟩
      obtain ⟨d, hd⟩ : ∃ d, d = decide (b < Q[k].2.l) := ⟨_, rfl⟩
      rw [← hy, ← hd] at K1
      rw [← hy] at hc
      replace hc := md.cell (by simp) hc
      have HD := Lib.hid hd
      clear hwo hy hd md
      cases d with
      | true =>
        go_wp2_with fail
        refine (K1.out).mono ?_
        rintro e u1 ⟨rfl, m2, rfl⟩
        go_wp2_with fail
        go_ret
        refine ⟨_, rfl, ?_, _, rfl⟩
        have h0 : anyOver b Q = true := List.any_eq_true.2 ⟨Q[k], List.getElem_mem hkl, HD.out.symm⟩
        rw [h0]
        exact decide_eq_true (by omega)
      | false =>
        go_wp2_with fail
        refine (K1.out).mono ?_
        rintro e u1 ⟨rfl, m2, rfl⟩
        go_wp2_with fail
        go_roundw
        case rel => exact ⟨k + 1, m + m2, by go_num, by omega, rfl, Lib.hid fun j hj hk => by
          by_cases e : j = k
          · subst e; exact HD.out.symm
          · exact hi.out j hj (by omega)⟩
        case measure => simp [intOf]; omega
    · have hltI : ¬ (k : Int) < (n : Int) := by omega
      go_wp2_with fail
      go_ret
      refine ⟨_, rfl, ?_, _, rfl⟩
      have h0 : anyOver b Q = false := by
        unfold anyOver
        rw [List.any_eq_false]
        intro z hz
        obtain ⟨j, hj, rfl⟩ := List.getElem_of_mem hz
        rw [hi.out j hj (by have := HN.out; omega)]
        simp
      rw [h0]
      rfl
theorem containsP_calls {w : World} {A : Option Addr} {n cap M : Nat} {b : Int} {Q : List (Nat × We)} (hQ : PtsAt w A Q) (hn : n = Q.length) (hb : n ≤ 1000000) (hM : w.cell? ⟨M, 1, none⟩ = some (.int .i64 b)) :
    Calls Try.prog 52 #[.slice A n cap, fnOver M] w fun e w' => e = .returned (.bool (anyOver b Q)) ∧ ∃ k, w' = w.drewN k := by
  have K1 := Lib.hid (idxP_calls (cap := cap) hQ hn hb hM)
  clear hQ hn hb hM
  obtain ⟨c, hc⟩ : ∃ c, c = anyOver b Q := ⟨_, rfl⟩
  rw [← hc] at K1 ⊢
  clear hc
  go_enter Try.func52, Try.ntmps52
  go_wp2_with fail
  refine (K1.out).mono ?_
  rintro e u1 ⟨r, rfl, hr, k, rfl⟩
  have HR := Lib.hid hr
  clear hr
  go_wp2_with fail
  all_goals
    go_ret
    rw [← HR.out]
    first | exact ⟨rfl, _, rfl⟩ | (simp [*]; exact ⟨_, rfl⟩)
theorem mayBack_at {D : Di} {x : Nat} {b : Int} (hx : x ≤ D.W.length) (hb : D.known b = true) : D.mayBack (x : Int) b = !(D.W.take x).any fun a => decide (b < a.l) := by
  have h : 1 ≤ b ∧ b ≤ (D.k : Int) := by simpa [Di.known] using hb
  unfold Di.mayBack
  have h1 : decide (0 ≤ (x : Int) ∧ 1 ≤ b ∧ (x : Int) ≤ (D.W.length : Int) ∧ b ≤ (D.k : Int)) = true := decide_eq_true (by omega)
  rw [h1, Bool.true_and, Int.toNat_natCast, List.not_any_eq_all_not]
  congr 1
  funext a
  rw [Bool.eq_iff_iff]
  simp
theorem ptsZ_get (Z : List (Nat × We)) (i : Nat) (h : i < Z.length) : (ptsZ Z)[i]? = some (PtW (Z.reverse[i]'(by simpa using h)).1) := by
  unfold ptsZ
  rw [← List.map_reverse, List.getElem?_map, List.getElem?_eq_getElem (by simpa using h)]
  rfl
theorem Ws.mem {w : World} : ∀ {Z : List (Nat × We)}, Ws w Z → ∀ z ∈ Z, ∃ pr, WoAt w z.1 z.2 pr
  | y :: r, h, z, hz => by
    rcases List.mem_cons.1 hz with rfl | hz
    · exact ⟨_, h.1⟩
    · exact Ws.mem h.2 z hz
theorem PdV.pts {w : World} {p : Nat} {A : Option Addr} {n cap : Nat} {b : Nat} {u : Value} {Z : List (Nat × We)} {D : Di} (h : PdV w p (.slice A n cap) b u Z D) (x : Nat) (hx : x ≤ Z.length) : PtsAt w A (Z.reverse.take x) := fun i hi => by
  have hi1 : i < x ∧ i < Z.length := by simp at hi; omega
  obtain ⟨A', c', e, _, hc⟩ := rowD_open h.body.rv
  injection e with e1 e2 e3
  subst e1
  obtain ⟨g, e4, hcell⟩ := hc i (by omega)
  have hm : Z.reverse[i]'(by simpa using hi1.2) ∈ Z := by
    exact List.mem_reverse.1 (List.getElem_mem _)
  obtain ⟨pr, hw⟩ := h.body.ws.mem _ hm
  refine ⟨g, 0, pr, e4, ?_, ?_⟩
  · rw [Nat.zero_add, hcell, ptsZ_get Z i hi1.2, List.getElem_take]
  · rw [List.getElem_take]
    exact hw
theorem ptrs_upto (A : Option Addr) (len cap k : Nat) (hk : k ≤ cap) (W : World) :
    (Instr.sliceAt 67 (.slice A len cap) none (some (.int .i64 (k : Int))) none).run Try.prog W = .ok (.slice A k cap) W := by
  have ht := Try.underlying67
  have he : Try.prog.elem 67 = 71 := by simp [Program.elem, ht]
  have ht' : Try.prog.underlying 67 = some (.slice (Try.prog.elem 67)) := by rw [he]; exact ht
  have hz : (Go.sizeOf 71).run Try.prog W = .ok 1 W := by kernel_rfl
  rw [run_sliceAt_slice W 67 _ _ _ _ ht', run_slice_h W 67 A len cap ht' .i64 k (by omega) (by omega), he, hz]
  show Result.ok (sliced A 0 (k : Int).toNat cap 1) W = _
  unfold sliced
  have e1 : (if cap = 0 then A else A.map fun x => x.add (0 * 1)) = A := by
    split
    · rfl
    · cases A with
      | none => rfl
      | some x => show some (x.add (0 * 1)) = _; rw [Nat.zero_mul, addr_zero9]
  rw [e1, Int.toNat_natCast, Nat.sub_zero, Nat.sub_zero]
theorem mark_new (w : World) (a b : Int) : (w.alloc (.cells #[.int .i64 a, .int .i64 b] 31)).cell? ⟨w.heap.size, 0, none⟩ = some (.int .i64 a) ∧ (w.alloc (.cells #[.int .i64 a, .int .i64 b] 31)).cell? ⟨w.heap.size, 1, none⟩ = some (.int .i64 b) := by
  have hb := (MapKept.heap_alloc w (.cells #[.int .i64 a, .int .i64 b] 31)).1
  refine ⟨?_, ?_⟩
  · simp only [World.cell?, hb]; rfl
  · simp only [World.cell?, hb]; rfl
theorem mayBack_no {D : Di} {a b : Int} (h : ¬ (0 ≤ a ∧ 1 ≤ b ∧ a ≤ (D.W.length : Int) ∧ b ≤ (D.k : Int))) : D.mayBack a b = false := by
  unfold Di.mayBack
  rw [decide_eq_false h, Bool.false_and]
set_option maxHeartbeats 4000000 in
theorem reaches_calls {w : World} {p : Nat} {T : List Nat} {D : Di} (h : Pd9 w p T D) (a b : Int) : Calls Try.prog 42 #[PtD p, .agg #[.int .i64 a, .int .i64 b]] w (DTells (.bool (D.mayBack a b)) w) := by
  have HH := Lib.hid h
  obtain ⟨v, b0, u, Z, hv, rfl⟩ := h
  obtain ⟨A, cap, rfl, hle, _⟩ := rowD_open hv.body.rv
  have hlen : D.W.length = Z.length := by rw [hv.eW]; simp
  have hd := hv.dw
  obtain ⟨m0, m1⟩ := mark_new w a b
  have mA := (Mod.refl [] w).alloc (.cells #[.int .i64 a, .int .i64 b] 31)
  have hvA := hv.mod mA (by simp)
  have k0 := hvA.c0
  have HV := Lib.hid hvA
  have HM := Lib.hid mA
  obtain ⟨n, hn⟩ : ∃ n, n = Z.length := ⟨_, rfl⟩
  rw [← hn] at k0 hd hlen
  have hnI : (n : Int) ≤ 2000 := by omega
  have HN := Lib.hid (And.intro hn (And.intro hlen hle))
  obtain ⟨r, hr⟩ : ∃ r, r = D.mayBack a b := ⟨_, rfl⟩
  have HR := Lib.hid hr
  rw [← hr]
  have HL := Lib.hid (fun k : Nat => show Calls Try.prog 45 #[PtD p, .int .i64 b] ((w.alloc (.cells #[.int .i64 a, .int .i64 b] 31)).drewN k) (fun e w' => e = .returned (.bool (!D.known b)) ∧ ∃ m, w' = (w.alloc (.cells #[.int .i64 a, .int .i64 b] 31)).drewN m) from (lacks_calls ((HH.out.far mA).far ((Mod.refl [] _).drewN k)) b).mono fun e w' ⟨h1, h2⟩ => ⟨h1, k, h2.symm⟩)
  clear hv hvA hn hlen hle hr mA
  unfold DTells
  by_cases h1 : a < 0
  · have hr9 : r = false := HR.out.trans (mayBack_no (by omega))
    subst hr9
    clear HR
    have hg : decide (a < 0) = true := decide_eq_true h1
    go_enter Try.func42, Try.ntmps42
    go_upto_region 1 with fail
    go_quiet (fail)
    go_wp2_with fail
    go_ret
    exact ⟨rfl, HM.out.drewN _⟩
  · have hg : decide (a < 0) = false := decide_eq_false h1
    by_cases h2 : (n : Int) < a
    · have hr9 : r = false := HR.out.trans (mayBack_no (by have := HN.out.2.1; omega))
      subst hr9
      clear HR
      have HG2 := Lib.hid (show decide ((n : Int) < a) = true from decide_eq_true h2)
      go_enter Try.func42, Try.ntmps42
      go_upto_region 1 with fail
      have hg2 := HG2.out
      go_quiet (fail)
      go_wp2_with fail
      go_ret
      exact ⟨rfl, HM.out.drewN _⟩
    · obtain ⟨x, rfl⟩ : ∃ x : Nat, a = (x : Int) := ⟨a.toNat, by omega⟩
      have hxn : x ≤ n := by omega
      have HG2 := Lib.hid (show decide (n < x) = false from decide_eq_false (by omega))
      have HG2i := Lib.hid (show decide ((n : Int) < (x : Int)) = false from decide_eq_false h2)
      cases hkn : D.known b with
      | false =>
        have hr9 : r = false := HR.out.trans (mayBack_no fun hh => by
          unfold Di.known at hkn
          rw [decide_eq_false_iff_not] at hkn
          exact hkn ⟨hh.2.1, hh.2.2.2⟩)
        subst hr9
        rw [hkn] at HL
        clear HR hg hkn
        have HG := Lib.hid (show decide ((x : Int) < 0) = false from decide_eq_false (by omega))
        go_enter Try.func42, Try.ntmps42
        go_upto_region 1 with fail
        have hg := HG.out
        have hg2 := HG2.out
        have hg2i := HG2i.out
        go_quiet ((go_at_call 45; exact HL.out _))
        go_wp2_with fail
        go_ret
        exact ⟨rfl, HM.out.drewN _⟩
      | true =>
        have hr9 : r = !anyOver b (Z.reverse.take x) := by
          rw [HR.out, mayBack_at (by rw [HN.out.2.1]; exact hxn) hkn]
          congr 1
          unfold anyOver
          rw [HV.out.eW, ← List.map_reverse, ← List.map_take, List.any_map]
          rfl
        rw [hkn] at HL
        have hup := ptrs_upto A n cap x (by have := HN.out; omega)
        have hlen2 : x = (Z.reverse.take x).length := by simp; have := HN.out; omega
        have KC := Lib.hid (fun (W : World) (hm : Mod [] (w.alloc (.cells #[.int .i64 (x : Int), .int .i64 b] 31)) W) (k : Nat) => show Calls Try.prog 52 #[.slice A x cap, fnOver w.heap.size] (W.drewN k) (fun e w' => e = .returned (.bool (anyOver b (Z.reverse.take x))) ∧ ∃ m, w' = W.drewN m) from
          (containsP_calls (cap := cap) ((HV.out.mod (hm.drewN k) (by simp)).pts x (by have := HN.out; omega)) hlen2 (by omega) ((hm.drewN k).cell (by simp) m1)).mono fun e w' ⟨h1, m, h2⟩ => ⟨h1, k + m, by rw [h2, World.drewN_drewN]⟩)
        obtain ⟨cc, hcc⟩ : ∃ cc, cc = anyOver b (Z.reverse.take x) := ⟨_, rfl⟩
        rw [← hcc] at KC hr9
        subst hr9
        clear HR hg hkn hlen2 hcc
        have HG := Lib.hid (show decide ((x : Int) < 0) = false from decide_eq_false (by omega))
        go_enter Try.func42, Try.ntmps42
        go_upto_region 1 with fail
        have hg := HG.out
        have hg2 := HG2.out
        have hg2i := HG2i.out
        go_quiet ((go_at_call 45; exact HL.out _))
        go_upto_region 3 with fail
        have m2 : Mod [] (w.alloc (.cells #[.int .i64 (x : Int), .int .i64 b] 31)) ((w.alloc (.cells #[.int .i64 (x : Int), .int .i64 b] 31)).drewN nq) := (Mod.refl [] _).drewN nq
        have KC2 := Lib.hid (KC.out _ m2)
        have j0 := m2.cell (by simp) k0
        have j1 := m2.cell (by simp) m0
        have M2 := Lib.hid (HM.out.trans m2)
        clear m2 hg hg2 hg2i KC HL
        generalize (w.alloc (.cells #[.int .i64 (x : Int), .int .i64 b] 31)).drewN nq = W2 at KC2 j0 j1 M2 ⊢
        clear k0 m0 m1
        go_quiet ((go_at_call 52; exact KC2.out _))
        go_wp2_with fail
        go_ret
        exact ⟨rfl, M2.out.drewN _⟩
end Go.Proofs.Ytldnpppbnakcoaa
