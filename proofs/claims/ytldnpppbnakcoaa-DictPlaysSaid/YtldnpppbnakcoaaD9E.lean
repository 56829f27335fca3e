/- Layer 9 (package rhytonref09): the document's Names, SetOrder, Add. Condition: the block is such a dictionary (Rd9). -/
import Derived.Test.YtldnpppbnakcoaaD9D
namespace Go.Proofs.Ytldnpppbnakcoaa
open Go.RowKit
set_option linter.unusedVariables false

/-- The names of a list, the last one first. -/
def namesW (W : List We) (l : Int) : List ByteArray := (W.reverse.filter fun a => a.l == l).map fun a => str a.n
theorem namesW_step (W : List We) (l : Int) (j : Nat) (hj : j < W.length) : namesW (W.drop j) l = namesW (W.drop (j + 1)) l ++ (if W[j].l = l then [str W[j].n] else []) := by
  unfold namesW
  rw [List.drop_eq_getElem_cons hj, List.reverse_cons, List.filter_append, List.map_append]
  congr 1
  by_cases h : W[j].l = l
  · rw [if_pos h]; simp [h]
  · rw [if_neg h]; simp [h]
theorem namesW_len (W : List We) (l : Int) : (namesW W l).length ≤ W.length := by
  unfold namesW
  rw [List.length_map]
  exact Nat.le_trans (List.length_filter_le _ _) (by simp)
/-- f answers a row of these texts, one of its own; nothing of what was there has turned. -/
def DNames (X : List ByteArray) (w : World) (e : Ending) (w' : World) : Prop := ∃ v, e = .returned v ∧ Sr w' w.heap.size v X ∧ Mod [] w w'
set_option maxHeartbeats 4000000 in
theorem names9_calls {w : World} {q : Nat} {T : List Nat} {D : Di} (h : Rd9 w q T D) (l : Int) :
    Calls Try.prog 21 #[PtD q, .int .i64 l] w (DNames (namesW D.W l) w) := by
  obtain ⟨v, u, hv, rfl⟩ := h
  have HV := Lib.hid hv
  obtain ⟨A, cap, rfl, _⟩ := rowD_open hv.rv
  obtain ⟨m, hm⟩ : ∃ m, m = D.W.length := ⟨_, rfl⟩
  have hd := hv.dw
  have h0 := hv.c0
  rw [← hm] at hd h0
  have HM := Lib.hid hm
  have hmI : (m : Int) ≤ 2000 := by omega
  clear hv hm
  have hM := Mod.refl [] w
  unfold DNames
  go_enter Try.func21, Try.ntmps21
  go_wp2_with fail
  go_loopw [5, 6] (fun r z wr => ∃ (k : Nat) (i : Int), z = .int .i64 i ∧ i + 1 = (k : Int) ∧ k ≤ m ∧ RowKit.Hid (Sr wr w.heap.size r (namesW (D.W.drop k) l) ∧ Mod [] w wr)) (fun _ z _ => (intOf z + 1).toNat)
  case atStart => exact ⟨m, _, rfl, by omega, Nat.le_refl _, Lib.hid ⟨by rw [HM.out, List.drop_length]; exact Sr.nil _ _, hM⟩⟩
  case round =>
    clear hM
    obtain ⟨k, i, rfl, hik, hkm, hi⟩ := hrel
    have HI := Lib.hid hi.out
    have k0 := HI.out.2.cell (x := ⟨q, 0, none⟩) (by simp) h0
    clear hi h0
    by_cases hk0 : k = 0
    · subst hk0
      obtain rfl : i = -1 := by omega
      clear hik hkm k0
      go_wp2_with fail
      go_ret
      have h := HI.out.1
      rw [List.drop_zero] at h
      exact ⟨_, rfl, h, HI.out.2⟩
    · obtain ⟨j, rfl⟩ : ∃ j, k = j + 1 := ⟨k - 1, by omega⟩
      obtain rfl : i = (j : Int) := by omega
      have hjl : j < D.W.length := by have := HM.out; omega
      have hjm : (j : Int) < (m : Int) := by omega
      have hvr := HV.out.mod HI.out.2 (by simp)
      obtain ⟨b, cap', he, hat⟩ := hvr.word j hjl
      injection he with he1 he2 he3
      subst he1
      have hst := namesW_step D.W l j hjl
      obtain ⟨a, haa⟩ : ∃ a, a = D.W[j] := ⟨_, rfl⟩
      rw [← haa] at hat hst
      have d0 := hat.c0
      have d3 := hat.c3
      obtain ⟨N, hN⟩ : ∃ N, N = str a.n := ⟨_, rfl⟩
      rw [← hN] at d0 hst
      obtain ⟨al, hal⟩ : ∃ al, al = a.l := ⟨_, rfl⟩
      rw [← hal] at d3 hst
      have hXl := namesW_len (D.W.drop (j + 1)) l
      have hX2 : (namesW (D.W.drop (j + 1)) l).length ≤ 1000000000 := by
        rw [List.length_drop] at hXl
        have := HM.out
        omega
      clear hvr hat haa he2 he3 hN hal hXl
      by_cases hl : al = l
      · rw [if_pos hl] at hst
        have HST := Lib.hid hst
        subst hl
        have HB := Lib.hid (HI.out.1.far ((Mod.refl [] wr).alloc (.cells #[.string N] 9)))
        have HC := Lib.hid (one_str wr N 9)
        have HM2 := Lib.hid (HI.out.2.alloc (.cells #[.string N] 9))
        clear hst
        go_wp2_with (refine wpList_appT rfl (.tmp 27) (.tmp 37) rfl HB.out HM2.out.size hX2 _ 1 N HC.out rfl rfl ?_)
        intro v' w' b1 b2
        have B1 := Lib.hid b1
        have M1 := Lib.hid (HM2.out.below_of b2 (Nat.le_refl _))
        clear b1 b2
        go_wp2_with fail
        go_roundw
        case rel => exact ⟨j, (j : Int) - 1, by go_num, by omega, by omega, Lib.hid ⟨by rw [HST.out]; exact B1.out, M1.out⟩⟩
        case measure => simp [intOf]
      · have hlb : (al == l) = false := by rw [beq_eq_false_iff_ne]; exact hl
        rw [if_neg hl, List.append_nil] at hst
        have HST := Lib.hid hst
        clear hst
        go_wp2_with fail
        go_roundw
        case rel => exact ⟨j, (j : Int) - 1, by go_num, by omega, by omega, Lib.hid ⟨by rw [HST.out]; exact HI.out.1, HI.out.2⟩⟩
        case measure => simp [intOf]
/-- Numbers that lie where a slice begins. -/
def IntsAt (w : World) (A : Option Addr) (Y : List Int) : Prop := ∀ i (hi : i < Y.length), ∃ b o, A = some ⟨b, o, none⟩ ∧ w.cell? ⟨b, o + i, none⟩ = some (.int .i64 Y[i])
theorem IntsAt.far {w w' : World} {A : Option Addr} {Y : List Int} (h : IntsAt w A Y) (m : Mod [] w w') : IntsAt w' A Y := fun i hi => by
  obtain ⟨b, o, e, hc⟩ := h i hi
  exact ⟨b, o, e, m.cell (by simp) hc⟩
def Di.knows (D : Di) (Y : List Int) : Bool := Y.all fun l => D.known l
theorem Di.knows_no {D : Di} {Y : List Int} (i : Nat) (hi : i < Y.length) (h : D.known Y[i] = false) : D.knows Y = false := by
  unfold Di.knows
  rw [List.all_eq_false]
  exact ⟨Y[i], List.getElem_mem hi, by simp [h]⟩
theorem Di.knows_yes {D : Di} {Y : List Int} (h : ∀ i (hi : i < Y.length), D.known Y[i] = true) : D.knows Y = true := by
  unfold Di.knows
  rw [List.all_eq_true]
  intro x hx
  obtain ⟨i, hi, rfl⟩ := List.getElem_of_mem hx
  exact h i hi
/-- An append of numbers: a name, so that the walk lays nothing open. -/
def appInts (ty : TypeId) (xs : Array Value) : Sem Value := Builtin.append_ #[29, 29] ty xs
@[go_sem ↓ high] theorem builtin_appInts (ty : TypeId) (cs : Array Bool) (xs : Array Value) : builtin .append #[29, 29] ty cs xs = (do pure (.value (← appInts ty xs))) := rfl
theorem infoInt9 : (Try.prog.info? 3).map (fun i => (i.zero, i.size, i.bytes)) = some (some (.int .i64 0), 1, 8) := by kernel_rfl
/-- A row that is new, and the numbers that are copied into it. -/
theorem run_copyI9 (w : World) {A : Option Addr} {n cap : Nat} {Y : List Int} (h : IntsAt w A Y) (hn : n = Y.length) (hA : A = none → cap = 0) (hl : Y.length ≤ 1000000) (ty : TypeId) :
    ∃ A2 n2 c2 w', (Builtin.append_ #[29, 29] ty #[.slice (some ⟨w.heap.size, 0, none⟩) 0 0, .slice A n cap]).run Try.prog (w.alloc (.cells #[] 3)) = .ok (.slice A2 n2 c2) w' ∧ w'.ownsRow 0 3 1 (.slice A2 n2 c2) Y.length (intsV Y) ∧ Mod [] w w' ∧ ∀ g, (Value.slice A2 n2 c2).ownBlock = some g → w.heap.size ≤ g := by
  subst hn
  obtain ⟨i, hi, hz0, hz1, hz2⟩ := info_parts infoInt9
  have hm : maxLen = 9223372036854775807 := rfl
  have m0 : Mod [] w (w.alloc (.cells #[] 3)) := (Mod.refl [] w).alloc _
  have hb : (w.alloc (.cells #[] 3)).ownsRow 0 3 1 (.slice (some ⟨w.heap.size, 0, none⟩) 0 0) 0 [] := by
    have := World.ownsRow_lit (base := 0) (e := 3) (size := 1) w #[] 0 (Nat.zero_le _) (Nat.zero_le _) rfl
    simpa using this
  cases A with
  | none =>
    have hY : Y = [] := List.eq_nil_of_length_eq_zero (by
      refine Nat.eq_zero_of_not_pos fun hp => ?_
      obtain ⟨_, _, e, _⟩ := h 0 hp
      cases e)
    subst hY
    have hcap := hA rfl
    subst hcap
    exact ⟨_, _, _, _, run_append_owned_none (P := Try.prog) (w := w.alloc (.cells #[] 3)) 0 29 ty 3 i 1 Try.underlying29 hi _ _ _ hb, hb, m0, fun g hg => by simp [Value.ownBlock] at hg; omega⟩
  | some a =>
    obtain ⟨v', w', h1, h2, h3, h4, h5⟩ := run_append_own_at (P := Try.prog) (w.alloc (.cells #[] 3)) 0 29 ty 3 i (.int .i64 0) 1 8 Try.underlying29 hi hz0 hz1 hz2 rfl (by decide) _ _ _ hb a Y.length cap (intsV Y) (by simp [intsV]) (fun j u hj => by
      have hjl : j < Y.length := by
        have := (List.getElem?_eq_some_iff.1 hj).1
        rwa [intsV_len] at this
      obtain ⟨b, o, e, hc⟩ := (h.far m0) j hjl
      injection e with e
      subst e
      rw [WideShapes.add_plain, hc, ← hj]
      simp [intsV, hjl]) (fun u hu => by obtain ⟨x, _, rfl⟩ := List.mem_map.1 hu; rfl) (by omega) (by omega) (Nat.zero_le _)
    rw [Nat.zero_add, List.nil_append] at h2
    have h2' := h2
    rcases h2.2 with ⟨e, _⟩ | ⟨g', cp, cur', e, _⟩
    · have := (h4.1 e).1
      cases this
    · subst e
      refine ⟨_, _, _, w', h1, h2', m0.then (Mod.of_grown h3 (S := [w.heap.size]) (by simp [Value.ownBlock])) (by simp), fun g hg => ?_⟩
      rcases h5 with e | e
      · rw [e] at hg; simp [Value.ownBlock] at hg; omega
      · rw [e] at hg; simp at hg; omega
theorem RdV.setO {w w' : World} {q : Nat} {v u u' : Value} {D : Di} {O : List Int} (h : RdV w q v u D) (m : Mod [] w w') (hr : w'.ownsRow 0 3 1 u' O.length (intsV O)) (hg : ∀ g, u'.ownBlock = some g → w.heap.size ≤ g) (hO : O.length ≤ 8) :
    RdV (w'.setCell ⟨q, 2, none⟩ u') q v u' { D with O := O } ∧ TurnD (blocksD q v u) (blocksD q v u') w (w'.setCell ⟨q, 2, none⟩ u') := by
  have h2 := h.mod m (by simp)
  have hm : Mod [q] w' (w'.setCell ⟨q, 2, none⟩ u') := (Mod.refl [q] w').set (x := ⟨q, 2, none⟩) (Or.inl (by simp)) _
  have o : ∀ i, i ≠ 2 → (w'.setCell ⟨q, 2, none⟩ u').cell? ⟨q, i, none⟩ = w'.cell? ⟨q, i, none⟩ := fun i hi => by rw [World.cell?_setCell_other (h := by intro e; injection e with _ e; exact hi e.symm)]
  have su : u'.ownBlock ≠ some q := fun e => by have := hg q e; have := h.lp; omega
  refine ⟨⟨(o 0 (by omega)).trans h2.c0, (o 1 (by omega)).trans h2.c1, World.cell?_setCell_same _ _ _ (h := h2.c2), (o 3 (by omega)).trans h2.c3, fun i => (World.frozen?_setCell _ _ _ _).trans (h2.f i), Nat.lt_of_lt_of_le h2.lp hm.size, rowD_mod h2.rv hm fun g hg hp => h.sv (by rw [hg]; simpa using hp), rowD_mod hr hm fun g hg hp => su (by rw [hg]; simpa using hp), h.sv, su, fun g hg2 hv => ?_, h.names, h.dw, hO, h.dk⟩, (m.up (by simp)).trans (hm.up (by simp [blocksD])), fun x hx => ?_⟩
  · have h3 := hg g hg2
    have h4 := (World.ownsRow.lt h.rv g hv).2
    omega
  · rcases List.mem_cons.1 hx with rfl | hx
    · exact Or.inl (by simp [blocksD])
    · rcases List.mem_append.1 hx with hx | hx
      · exact Or.inl (by simp [blocksD] at hx ⊢; exact Or.inr (Or.inl hx))
      · exact Or.inr (hg x (by simpa using hx))
/-- What SetOrder answers and leaves. -/
def ordR (D : Di) (Y : List Int) : Int × Di := if Y.length ≤ 8 ∧ D.knows Y = true then (0, { D with O := Y }) else (-49, D)
set_option maxHeartbeats 4000000 in
theorem setord9_calls {w : World} {q : Nat} {T : List Nat} {D : Di} (h : Rd9 w q T D) {A : Option Addr} {n cap : Nat} {Y : List Int} (hY : IntsAt w A Y) (hn : n = Y.length) (hA : A = none → cap = 0) (hb : n ≤ 9223372036854775807) :
    Calls Try.prog 35 #[PtD q, .slice A n cap] w (DPlays q T (.int .i64 (ordR D Y).1) (ordR D Y).2 w) := by
  have HH := Lib.hid h
  have HY := Lib.hid hY
  have HN := Lib.hid hn
  unfold DPlays
  obtain ⟨r, hrr⟩ : ∃ r, r = ordR D Y := ⟨_, rfl⟩
  rw [← hrr]
  have HRR := Lib.hid hrr
  clear hrr
  by_cases h8 : n ≤ 8
  · have h8I : ¬ (8 : Int) < (n : Int) := by omega
    obtain ⟨v, u, hv, rfl⟩ := h
    have h2 := hv.c2
    have hf := hv.f 2
    obtain ⟨A2, n2, c2, w', hr, hrow, hm, hg⟩ := run_copyI9 w hY hn hA (by omega) 29
    have h2' := hm.cell (x := ⟨q, 2, none⟩) (by simp) h2
    have hf' := (hm.frozen (x := ⟨q, 2, none⟩) (by simp) hv.lp).trans hf
    have HS := Lib.hid (hv.setO hm hrow hg (by omega))
    replace hr : (appInts 29 _).run Try.prog _ = .ok (.slice A2 n2 c2) w' := hr
    clear hv hY hn hA hrow hm hg h2 hf
    go_enter Try.func35, Try.ntmps35
    go_wp2_with fail
    go_loop [5] (fun z => ∃ k : Nat, z = .int .i64 (k : Int) ∧ k ≤ n ∧ RowKit.Hid (∀ j (hj : j < Y.length), j < k → D.known Y[j] = true)) (fun z => n - (intOf z).toNat)
    case atStart => exact ⟨0, rfl, by omega, Lib.hid (fun j hj hk => by omega)⟩
    case round =>
      obtain ⟨k, rfl, hkn, hi⟩ := hrel
      by_cases hlt : k < n
      · have hltI : (k : Int) < (n : Int) := by omega
        have hkl : k < Y.length := by rw [← HN.out]; exact hlt
        obtain ⟨b, o, rfl, hc⟩ := HY.out k hkl
        have K1 := Lib.hid (known_calls HH.out Y[k])
        obtain ⟨y, hy⟩ : ∃ y, y = Y[k] := ⟨_, rfl⟩
        rw [← hy] at hc K1
        have HYY := Lib.hid hy
        clear hy
        cases hkw : D.known y with
        | true =>
          rw [hkw] at K1
          have HK := Lib.hid hkw
          clear hkw
          go_wp2_with fail
          refine (K1.out).mono ?_
          rintro e u1 ⟨rfl, rfl⟩
          go_wp2_with fail
          go_round
          case rel => exact ⟨k + 1, by go_num, by omega, Lib.hid fun j hj hk => by
            by_cases e : j = k
            · subst e; rw [← HYY.out]; exact HK.out
            · exact hi.out j hj (by omega)⟩
          case measure => simp [intOf]; omega
        | false =>
          rw [hkw] at K1
          have HNO := Lib.hid (show ¬ (Y.length ≤ 8 ∧ D.knows Y = true) from fun hh => by
            have := Di.knows_no k hkl (by rw [← HYY.out]; exact hkw)
            rw [this] at hh
            exact absurd hh.2 (by simp))
          clear hkw
          go_wp2_with fail
          refine (K1.out).mono ?_
          rintro e u1 ⟨rfl, rfl⟩
          go_wp2_with fail
          go_ret
          have hr9 : r = (-49, D) := HRR.out.trans (if_neg HNO.out)
          subst hr9
          exact ⟨rfl, _, HH.out, TurnD.refl _ _⟩
      · have hltI : ¬ (k : Int) < (n : Int) := by omega
        have HYES := Lib.hid (show Y.length ≤ 8 ∧ D.knows Y = true from ⟨by rw [← HN.out]; exact h8, Di.knows_yes fun j hj => hi.out j hj (by have := HN.out; omega)⟩)
        have hr9 : r = (0, { D with O := Y }) := HRR.out.trans (if_pos HYES.out)
        subst hr9
        clear HRR
        go_wp2_with fail
        go_ret
        exact ⟨rfl, _, ⟨_, _, HS.out.1, rfl⟩, HS.out.2⟩
  · have h8I : (8 : Int) < (n : Int) := by omega
    have HNO := Lib.hid (show ¬ (Y.length ≤ 8 ∧ D.knows Y = true) from fun hh => by have := HN.out; omega)
    clear h hY hn
    go_enter Try.func35, Try.ntmps35
    go_wp2_with fail
    go_ret
    have hr9 : r = (-49, D) := HRR.out.trans (if_neg HNO.out)
    subst hr9
    exact ⟨rfl, _, HH.out, TurnD.refl _ _⟩
end Go.Proofs.Ytldnpppbnakcoaa
