/- Layer 14 (package frame): slices.Contains of kinds; topmost. Condition: the block is frames (Fv). -/
import Derived.Test.YtacmidlhfcnkiaaGJ
namespace Go.Proofs.Ytacmidlhfcnkiaa
open Go.RowKit Go.Shelf
attribute [local go_sem] Oper.semAt_some
set_option linter.unusedVariables false

/-- r tells whether v is among ks. -/
def IdxR (ks : List Int) (v r : Int) : Prop := decide (0 ≤ r) = decide (v ∈ ks)
set_option maxHeartbeats 1000000 in
theorem idxI_calls {w : World} {A : Option Addr} {n cap : Nat} {ks : List Int} (hs : Sl w A ks) (hn : n = ks.length) (hb : n ≤ 1000) (v : Int) :
    Calls Try.prog 45 #[.slice A n cap, .int .i64 v] w fun e w' => ∃ r : Int, e = .returned (.int .i64 r) ∧ IdxR ks v r ∧ w' = w := by
  have HQ := Lib.hid hs
  have HN := Lib.hid hn
  have hbI : (n : Int) ≤ 1000 := by omega
  clear hs hn
  go_enter Try.func45, Try.ntmps45
  go_wp2_with fail
  go_loopw [8] (fun z wr => ∃ k : Nat, z = .int .i64 (k : Int) ∧ k ≤ n ∧ wr = w ∧ RowKit.Hid (∀ j (hj : j < ks.length), j < k → ks[j] ≠ v)) (fun z _ => n - (intOf z).toNat)
  case atStart => exact ⟨0, rfl, by omega, rfl, Lib.hid (fun j hj hk => by omega)⟩
  case round =>
    obtain ⟨k, rfl, hkn, rfl, hi⟩ := hrel
    by_cases hlt : k < n
    · have hltI : (k : Int) < (n : Int) := by omega
      have hkl : k < ks.length := by rw [← HN.out]; exact hlt
      obtain ⟨g, o, rfl, hc⟩ := HQ.out k hkl
      obtain ⟨y, hy⟩ : ∃ y, y = ks[k] := ⟨_, rfl⟩
      rw [← hy] at hc
      by_cases hv : v = y
      · have HD := Lib.hid (And.intro hy hv)
        have hvb : (v == y) = true := by simpa using hv
        clear hy hv
        go_wp2_with fail
        go_ret
        refine ⟨_, rfl, ?_, ?_⟩
        · unfold IdxR
          rw [decide_eq_true (by omega : (0 : Int) ≤ (k : Int)), eq_comm, decide_eq_true_iff, HD.out.2, HD.out.1]
          exact List.getElem_mem hkl
        · first | rfl | trivial
      · have HD := Lib.hid (And.intro hy hv)
        have hvb : (v == y) = false := by simpa using hv
        clear hy hv
        go_wp2_with fail
        go_roundw
        case rel => exact ⟨k + 1, by go_num, by omega, trivial, Lib.hid fun j hj hk => by
          by_cases e : j = k
          · subst e; exact fun h => HD.out.2 (by rw [HD.out.1, h])
          · exact hi.out j hj (by omega)⟩
        case measure => simp [intOf]; omega
    · have hltI : ¬ (k : Int) < (n : Int) := by omega
      go_wp2_with fail
      go_ret
      refine ⟨_, rfl, ?_, ?_⟩
      · unfold IdxR
        rw [decide_eq_false (by omega), eq_comm, decide_eq_false_iff_not]
        intro hm
        obtain ⟨j, hj, e⟩ := List.getElem_of_mem hm
        exact hi.out j hj (by have := HN.out; omega) e
      · first | rfl | trivial
theorem hasI_calls {w : World} {A : Option Addr} {n cap : Nat} {ks : List Int} (hs : Sl w A ks) (hn : n = ks.length) (hb : n ≤ 1000) (v : Int) :
    Calls Try.prog 44 #[.slice A n cap, .int .i64 v] w fun e w' => e = .returned (.bool (decide (v ∈ ks))) ∧ w' = w := by
  have K1 := Lib.hid (idxI_calls (cap := cap) hs hn hb v)
  clear hs hn hb
  unfold IdxR at K1
  obtain ⟨c, hc⟩ : ∃ c, c = decide (v ∈ ks) := ⟨_, rfl⟩
  rw [← hc] at K1 ⊢
  clear hc
  go_enter Try.func44, Try.ntmps44
  go_wp2_with fail
  refine (K1.out).mono ?_
  rintro e u1 ⟨r, rfl, hr, rfl⟩
  have HR := Lib.hid (show decide (0 ≤ r) = c from hr)
  clear hr
  go_wp2_with fail
  all_goals
    go_ret
    rw [← HR.out]
    first | exact ⟨rfl, rfl⟩ | exact ⟨rfl, trivial⟩ | (simp [*])
def kindsP (ks : List Int) (q : Fm) : Bool := decide (q.k ∈ ks)
def topI (ks : List Int) (L : List Fm) : Int := match topP (kindsP ks) L with
  | some i => (i : Int)
  | none => -1
def kindAt (O : List (Fm × Value)) (i : Nat) : Int := ((O[i]?).map fun q => q.1.k).getD 0
theorem kindAt_is {O : List (Fm × Value)} {i : Nat} (hi : i < O.length) : kindAt O i = O[i].1.k := by simp [kindAt, hi]
theorem topI_found {O : List (Fm × Value)} {ks : List Int} {i : Nat} (hi : i < O.length) (h1 : kindAt O i ∈ ks) (h2 : ∀ j, i < j → j < O.length → kindAt O j ∉ ks) : topI ks (O.map Prod.fst) = (i : Int) := by
  have e : O.map Prod.fst = (O.take i).map Prod.fst ++ O[i].1 :: (O.drop (i + 1)).map Prod.fst := by
    have e0 : O = O.take i ++ O[i] :: O.drop (i + 1) := by rw [← List.drop_eq_getElem_cons hi, List.take_append_drop]
    exact (congrArg (List.map Prod.fst) e0).trans (by rw [List.map_append, List.map_cons])
  unfold topI
  rw [e, topP_is]
  · simp; omega
  · unfold kindsP; rw [kindAt_is hi] at h1; exact decide_eq_true h1
  · intro b hb
    obtain ⟨q, hq, rfl⟩ := List.mem_map.1 hb
    obtain ⟨j, hj, rfl⟩ := List.getElem_of_mem hq
    have hj' : i + 1 + j < O.length := by simp at hj; omega
    have := h2 (i + 1 + j) (by omega) hj'
    rw [kindAt_is hj'] at this
    unfold kindsP
    rw [List.getElem_drop]
    exact decide_eq_false this
theorem topI_none {O : List (Fm × Value)} {ks : List Int} (h2 : ∀ j, j < O.length → kindAt O j ∉ ks) : topI ks (O.map Prod.fst) = -1 := by
  unfold topI
  rw [topP_none]
  intro b hb
  obtain ⟨q, hq, rfl⟩ := List.mem_map.1 hb
  obtain ⟨j, hj, rfl⟩ := List.getElem_of_mem hq
  have := h2 j hj
  rw [kindAt_is hj] at this
  exact decide_eq_false this
theorem three_alloc (w : World) (o0 o1 o2 : Obj) : (((w.alloc o0).alloc o1).alloc o2).heap.size = w.heap.size + 3 ∧ (((w.alloc o0).alloc o1).alloc o2).heap[w.heap.size]? = some o0 ∧ (((w.alloc o0).alloc o1).alloc o2).heap[w.heap.size + 1]? = some o1 ∧ (((w.alloc o0).alloc o1).alloc o2).heap[w.heap.size + 1 + 1]? = some o2 := by
  have z1 := size_allocI w o0
  have z2 := size_allocI (w.alloc o0) o1
  have z3 := size_allocI ((w.alloc o0).alloc o1) o2
  have a0 := (MapKept.heap_alloc w o0).1
  have a1 := (MapKept.heap_alloc (w.alloc o0) o1).1
  have a2 := (MapKept.heap_alloc ((w.alloc o0).alloc o1) o2).1
  rw [z1] at a1
  rw [z2, z1] at a2
  have m1 := al_mod (w.alloc o0) o1
  have m2 := al_mod ((w.alloc o0).alloc o1) o2
  refine ⟨by omega, ?_, ?_, a2⟩
  · exact (m2.block _ (by omega) (by simp)).trans ((m1.block _ (by omega) (by simp)).trans a0)
  · exact (m2.block _ (by omega) (by simp)).trans a1
set_option maxRecDepth 100000 in
set_option maxHeartbeats 8000000 in
theorem topmost_calls {w : World} {p : Nat} {v : Value} {O : List (Fm × Value)} (h : Fv TP w p v O) {a0 : Addr} {kn kc : Nat} {ks : List Int} (hks : Sl w (some a0) ks) (hkn : kn = ks.length) (hkb : kn ≤ 1000) :
    Calls Try.prog 40 #[Pt p, .slice (some a0) kn kc] w fun e w' => e = .returned (.int .i64 (topI ks (O.map Prod.fst))) ∧ Mod [] w w' := by
  have hfew := h.few
  obtain ⟨A, cap, rfl, _⟩ := h.slice
  obtain ⟨c, hc⟩ : ∃ c, c = O.length := ⟨_, rfl⟩
  rw [← hc] at h hfew
  obtain ⟨g, hg⟩ : ∃ g, 0 < c → A = some ⟨g, 0, none⟩ := by
    rcases h.row.2 with ⟨e, h0⟩ | ⟨g, cp, cur, e, _⟩
    · exact ⟨0, fun hp => by omega⟩
    · injection e with e1; exact ⟨g, fun _ => e1⟩
  have hgl : 0 < c → g < w.heap.size := fun hp => h.lv g (by rw [hg hp]; rfl)
  have hkind : ∀ i, i < c → w.cell? ⟨g, i * 6, none⟩ = some (.int .i64 (kindAt O i)) := fun i hi => by
    have hio : i < O.length := by omega
    have hO : O = O.take i ++ O[i] :: O.drop (i + 1) := by rw [← List.drop_eq_getElem_cons hio, List.take_append_drop]
    have h' := h
    rw [hO] at h'
    obtain ⟨g', cap', e, _, hcc, _⟩ := h'.at_
    have hg1 := hg (by omega)
    subst hg1
    injection e with e1
    injection e1 with e1
    injection e1 with e1
    subst e1
    have := hcc 0 (by omega)
    rw [List.length_take, Nat.min_eq_left (by omega)] at this
    rw [kindAt_is hio]
    exact this
  have hpl := h.lp
  have hc0 := h.c0
  obtain ⟨hsz, b0, b1, b2⟩ := three_alloc w (.cells #[.slice (some a0) kn kc] 76) (.cells #[.int .i64 0] 3) (.cells #[Pt p] 24)
  have M2 : Mod [] w (((w.alloc (.cells #[.slice (some a0) kn kc] 76)).alloc (.cells #[.int .i64 0] 3)).alloc (.cells #[Pt p] 24)) := ((al_mod w _).trans (al_mod _ _)).trans (al_mod _ _)
  have HN := Lib.hid (And.intro hc hkn)
  have HG := Lib.hid hg
  clear h hc hkn
  refine (callsIn_wide (n := 3)).1 ?_
  refine callsIn_of_wp_marks Try.func40 rfl trivial ?_ rfl
  simp only [Try.ntmps40, List.size_toArray, List.length_cons, List.length_nil, Nat.reduceAdd, Nat.reduceSub, Array.replicate_succ, Array.replicate_zero, List.push_toArray, List.append_toArray, List.nil_append, List.cons_append]
  gi_wp2
  refine ⟨trivial, (fromTop_in 2 p _).mono ?_⟩
  rintro e w' ⟨rfl, rfl⟩
  gi_wp2
  generalize ((w.alloc (.cells #[.slice (some a0) kn kc] 76)).alloc (.cells #[.int .i64 0] 3)).alloc (.cells #[Pt p] 24) = W2 at hsz M2 b0 b1 b2 ⊢
  have hks2 := hks.far M2
  have hkind2 : ∀ i, i < c → W2.cell? ⟨g, i * 6, none⟩ = some (.int .i64 (kindAt O i)) := fun i hi => M2.cell (by simp) (hkind i hi)
  have hc2 := M2.cell (x := ⟨p, 0, none⟩) (by simp) hc0
  clear hks hkind hc0
  have hfr : ∀ W, Mod [] W2 W → W.cell? ⟨w.heap.size + 1, 0, none⟩ = some (.int .i64 0) ∧ W.frozen? ⟨w.heap.size + 1, 0, none⟩ = false ∧ W.heap[w.heap.size + 1]? = some (.cells #[.int .i64 0] 3 (0, 0)) := fun W m => by
    have q := (m.block (w.heap.size + 1) (by omega) (by simp)).trans b1
    exact ⟨cell_eq q 0, frz_eq q 0, q⟩
  refine wpIn_rangeFunc_ownG (w0 := W2) rfl (by omega) (gf := ftF) (lb := #[.pointer (some ⟨w.heap.size + 1 + 1, 0, none⟩)]) rfl trivial (enters_of Try.func43 (by kernel_rfl) rfl)
    (top_stops 2 (by omega) (w.heap.size + 1 + 1) p g A c cap (by omega) W2 (by omega) (by omega) hg (cell_eq b2 0) hc2) Kz.trans (kz_put (Nat.le_refl _)) (Below.refl _ _) (fun _ => rfl)
    (fun pre W => Mod [] W2 W ∧ ∀ y ∈ pre, kindAt O (c - 1 - y.1) ∉ ks)
    (fun cd pre W => cd = .ret ∧ Mod [w.heap.size + 1] W2 W ∧ ∃ pre' x, pre = pre' ++ [x] ∧ kindAt O (c - 1 - x.1) ∈ ks ∧ (∀ y ∈ pre', kindAt O (c - 1 - y.1) ∉ ks) ∧ W.heap[w.heap.size + 1]? = some (.cells #[.int .i64 ((c - 1 - x.1 : Nat) : Int)] 3 (0, 0))) ?hI ?hIx ⟨Mod.refl _ _, by simp⟩
    (fun x => { tmps := #[Pt p, Value.slice (some a0) kn kc, undef, Value.pointer (some { block := w.heap.size, off := 0 }),
          Value.pointer (some { block := w.heap.size + 1, off := 0 }), .int .i64 ((c - 1 - x.1 : Nat) : Int), .pointer (some ⟨g, (c - 1 - x.1) * 6, none⟩), Pt p,
          Value.func (Fn.func ftF) #[] #[Value.pointer (some { block := w.heap.size + 1 + 1, off := 0 })], .int .i64 ((c - 1 - x.1 : Nat) : Int), .pointer (some ⟨g, (c - 1 - x.1) * 6, none⟩),
          undef, undef, undef, undef, undef, undef, undef], defers := [] }) ?assign ?body ?done ?stop
  case hI =>
    intro s W W' row hs hg hr
    obtain ⟨S, mS, hS⟩ := grown_mod hg (B := W2.heap.size) fun r e => (hr r e).1
    exact ⟨hs.1.then mS fun y hy => Or.inr (hS y hy), hs.2⟩
  case hIx =>
    intro cd s W W' row hs hg hr
    obtain ⟨S, mS, hS⟩ := grown_mod hg (B := W2.heap.size) fun r e => (hr r e).1
    obtain ⟨h1, h2, pre', x, h3, h4, h5, h6⟩ := hs
    refine ⟨h1, h2.then mS fun y hy => Or.inr (hS y hy), pre', x, h3, h4, h5, (mS.block _ (Array.getElem?_eq_some_iff.1 h6).1 fun hx => by have := hS _ hx; omega).trans h6⟩
  case assign =>
    intro l x W K hK
    simp only [encP]
    gi_wp2
    exact hK
  case stop =>
    rintro D cd pre W hD ⟨m, hm, e0⟩ ⟨rfl, mW, pre', x, e, hkx, hno, hres⟩ hK
    have hmem : ∀ j, j < x.1 → kindAt O (c - 1 - j) ∉ ks := fun j hj => by
      have hl := congrArg List.length (e0.symm.trans e)
      rw [upC_len c m hm, List.length_append, List.length_singleton] at hl
      obtain ⟨m', rfl⟩ : ∃ m', m = m' + 1 := ⟨m - 1, by omega⟩
      rw [upC_succ c m' hm] at e0
      obtain ⟨h1, h2⟩ := List.append_inj' (e0.symm.trans e) rfl
      have h3 : (⟨m', hm⟩ : Upto c) = x := by simpa using h2
      subst h3
      have h4 := upC_mem c m' j hj (by omega)
      rw [h1] at h4
      exact hno _ h4
    have hxc := x.2
    have hres2 := topI_found (O := O) (ks := ks) (i := c - 1 - x.1) (by have := HN.out.1; omega) hkx (fun j h1 h2 => by
      have h3 := hmem (c - 1 - j) (by have := HN.out.1; omega)
      rwa [show c - 1 - (c - 1 - j) = j by have := HN.out.1; omega] at h3)
    have hDne : D ≠ w.heap.size + 1 := by omega
    have mP := put_mod W D (.deferred none)
    have hr2 := (mP.block (w.heap.size + 1) (Array.getElem?_eq_some_iff.1 hres).1 (by simp; omega)).trans hres
    have hc2 : (W.putObj D (.deferred none)).cell? ⟨w.heap.size + 1, 0, none⟩ = some (.int .i64 ((c - 1 - x.1 : Nat) : Int)) := cell_eq hr2 0
    have HE := Lib.hid (And.intro mW (And.intro mP hres2))
    clear mW mP hres2 hmem hno hkx e e0 hres hr2
    gi_wp2
    refine ⟨by simp, .inl ⟨_, _, rfl, run_takeDeferred hK, ?_⟩⟩
    refine ⟨.int .i64 ((c - 1 - x.1 : Nat) : Int), by simp [results, Try.results40, go_sem, hc2], ?_, (M2.then HE.out.1 (fun y hy => Or.inr (by have := List.mem_singleton.1 hy; omega))).then HE.out.2.1 (fun y hy => Or.inr (by have := List.mem_singleton.1 hy; omega))⟩
    rw [HE.out.2.2]
  case body =>
    rintro l pre x W ⟨hm, hno⟩ hlen
    obtain ⟨r0, r1, r2⟩ := hfr W hm
    obtain ⟨ix, hix⟩ : ∃ ix, ix = c - 1 - x.1 := ⟨_, rfl⟩
    have hk := hm.cell (by simp) (hkind2 ix (by have := x.2; omega))
    have hb0 := hm.cell (x := ⟨w.heap.size, 0, none⟩) (by simp) (cell_eq b0 0)
    have HC := Lib.hid (hasI_calls (cap := kc) ((hks2.far hm).far (Mod.refl [] W).drew) HN.out.2 hkb (kindAt O ix))
    have HI := Lib.hid (And.intro hm (And.intro hno (And.intro r2 hix)))
    obtain ⟨kd, hkd⟩ : ∃ kd, kd = kindAt O ix := ⟨_, rfl⟩
    rw [← hkd] at hk HC
    rw [← hix]
    have HKD := Lib.hid hkd
    have hs0 := hm.size
    clear hm hno hix hkd r2 hks2 hkind2 hc2 b0 b1 b2 hfr
    have hmx : Try.prog.follows .mixedOrders = true := by kernel_rfl
    gi_wp2
    refine wpIn_region_any hmx ?_
    change wpAnyIn _ _ _ _ _ _ _ _ _ (World.drew _)
    refine wpAnyIn_round l rfl (fun i o ho c => ?_) _ _ _ _ ?_
    · rcases i with _ | _ | _ | _ | _ | _ | i <;> cases ho <;> intro h <;> cases h
    refine wpAnyIn_take (i := 1) (v := .pointer (some ⟨g, ix * 6, none⟩)) rfl rfl (by kernel_rfl) (by kernel_rfl) (by kernel_rfl) (fun _ _ _ h => h) ⟨Or.inl ⟨by rfl, fun w => by go_simp⟩, fun _ => rfl⟩ ?_
    refine wpAnyIn_take (i := 2) (v := .pointer (some ⟨g, ix * 6, none⟩)) rfl rfl (by kernel_rfl) (by kernel_rfl) (by kernel_rfl) (fun _ _ _ h => h) ⟨Or.inl ⟨by rfl, fun w => by go_simp⟩, fun _ => rfl⟩ ?_
    refine wpAnyIn_take (i := 3) (v := .pointer (some ⟨g, ix * 6, none⟩)) rfl rfl (by kernel_rfl) (by kernel_rfl) (by kernel_rfl) (fun _ _ _ h => h) ⟨Or.inl ⟨by rfl, fun w => by go_simp⟩, fun _ => rfl⟩ ?_
    refine wpAnyIn_ready (rs := [0, 4]) (by kernel_rfl) (by simp) ?_
    refine AllReadyIn.cons rfl (fun K hK => ?_) ?_
    · go_simp
      refine hK _ _ ?_; clear hK K
      refine wpAnyIn_ready (rs := [4]) (by kernel_rfl) (by simp) ?_
      refine AllReadyIn.cons rfl (fun K hK => ?_) ?_
      · go_simp
        refine hK _ _ ?_; clear hK K
        refine wpAnyIn_ready (rs := [5]) (by kernel_rfl) (by simp) ?_
        refine AllReadyIn.cons rfl (fun K hK => ?_) ?_
        · go_simp
          refine ⟨trivial, (callsIn_wide.2 HC.out).mono ?_⟩
          rintro e W' ⟨rfl, rfl⟩
          refine hK _ _ ?_; clear hK K
          refine wpAnyIn_done (by kernel_rfl) ?_ _
          by_cases hkk : kd ∈ ks
          · have q1 : decide (kd ∈ ks) = true := decide_eq_true hkk
            have HKK := Lib.hid hkk
            clear hkk
            gi_wp2
            have m0 : Mod [] W W.drew := (Mod.refl [] W).drew
            have hset := set_mod W.drew (w.heap.size + 1) 0 (.int .i64 (ix : Int))
            have hs1 := heap_setCell_same W.drew (w.heap.size + 1) 0 _ _ (.int .i64 (ix : Int)) ((m0.block _ (Array.getElem?_eq_some_iff.1 HI.out.2.2.1).1 (by simp)).trans HI.out.2.2.1)
            have hmm := (m0.up (T := [w.heap.size + 1]) (by simp)).trans hset
            refine ⟨⟨hmm.size, fun k' o hk' ho hoc => (hmm.block k' (Array.getElem?_eq_some_iff.1 ho).1 (by simp; omega)).trans ho⟩, rfl, (HI.out.1.up (by simp)).trans hmm, pre, x, rfl, ?_, HI.out.2.1, ?_⟩
            · rw [← HI.out.2.2.2, ← HKD.out]; exact HKK.out
            · rw [← HI.out.2.2.2]; exact hs1
          · have q1 : decide (kd ∈ ks) = false := decide_eq_false hkk
            have HKK := Lib.hid hkk
            clear hkk
            gi_wp2
            have m0 : Mod [] W W.drew := (Mod.refl [] W).drew
            refine ⟨kf_far m0, kz_far m0 hs0, HI.out.1.trans m0, fun y hy => ?_⟩
            rcases List.mem_append.1 hy with hy | hy
            · exact HI.out.2.1 y hy
            · rw [List.mem_singleton.1 hy, ← HI.out.2.2.2, ← HKD.out]; exact HKK.out
        exact AllReadyIn.nil
      exact AllReadyIn.nil
    refine AllReadyIn.cons rfl (fun K hK => ?_) ?_
    · go_simp
      refine hK _ _ ?_; clear hK K
      refine wpAnyIn_ready (rs := [0]) (by kernel_rfl) (by simp) ?_
      refine AllReadyIn.cons rfl (fun K hK => ?_) ?_
      · go_simp
        refine hK _ _ ?_; clear hK K
        refine wpAnyIn_ready (rs := [5]) (by kernel_rfl) (by simp) ?_
        refine AllReadyIn.cons rfl (fun K hK => ?_) ?_
        · go_simp
          refine ⟨trivial, (callsIn_wide.2 HC.out).mono ?_⟩
          rintro e W' ⟨rfl, rfl⟩
          refine hK _ _ ?_; clear hK K
          refine wpAnyIn_done (by kernel_rfl) ?_ _
          by_cases hkk : kd ∈ ks
          · have q1 : decide (kd ∈ ks) = true := decide_eq_true hkk
            have HKK := Lib.hid hkk
            clear hkk
            gi_wp2
            have m0 : Mod [] W W.drew := (Mod.refl [] W).drew
            have hset := set_mod W.drew (w.heap.size + 1) 0 (.int .i64 (ix : Int))
            have hs1 := heap_setCell_same W.drew (w.heap.size + 1) 0 _ _ (.int .i64 (ix : Int)) ((m0.block _ (Array.getElem?_eq_some_iff.1 HI.out.2.2.1).1 (by simp)).trans HI.out.2.2.1)
            have hmm := (m0.up (T := [w.heap.size + 1]) (by simp)).trans hset
            refine ⟨⟨hmm.size, fun k' o hk' ho hoc => (hmm.block k' (Array.getElem?_eq_some_iff.1 ho).1 (by simp; omega)).trans ho⟩, rfl, (HI.out.1.up (by simp)).trans hmm, pre, x, rfl, ?_, HI.out.2.1, ?_⟩
            · rw [← HI.out.2.2.2, ← HKD.out]; exact HKK.out
            · rw [← HI.out.2.2.2]; exact hs1
          · have q1 : decide (kd ∈ ks) = false := decide_eq_false hkk
            have HKK := Lib.hid hkk
            clear hkk
            gi_wp2
            have m0 : Mod [] W W.drew := (Mod.refl [] W).drew
            refine ⟨kf_far m0, kz_far m0 hs0, HI.out.1.trans m0, fun y hy => ?_⟩
            rcases List.mem_append.1 hy with hy | hy
            · exact HI.out.2.1 y hy
            · rw [List.mem_singleton.1 hy, ← HI.out.2.2.2, ← HKD.out]; exact HKK.out
        exact AllReadyIn.nil
      exact AllReadyIn.nil
    exact AllReadyIn.nil
  case done =>
    rintro D ys W hD rfl ⟨hm, hno⟩ hK
    obtain ⟨r0, r1, r2⟩ := hfr W hm
    have hres2 := topI_none (O := O) (ks := ks) fun j hj => by
      have h3 := hno ⟨c - 1 - j, by have := HN.out.1; omega⟩ (upC_mem c c (c - 1 - j) (by have := HN.out.1; omega) (Nat.le_refl _))
      rwa [show c - 1 - (c - 1 - j) = j by have := HN.out.1; omega] at h3
    have hset := set_mod W (w.heap.size + 1) 0 (.int .i64 (-1))
    have hs1 := heap_setCell_same W (w.heap.size + 1) 0 _ _ (.int .i64 (-1)) r2
    have hK2 := (hset.block D (Array.getElem?_eq_some_iff.1 hK).1 (by simp; omega)).trans hK
    have HE0 := Lib.hid (And.intro hm (And.intro hset (And.intro hs1 (And.intro hres2 hK2))))
    clear hm hset hs1 hres2 hK2 hno hK r2
    gi_wp2
    obtain ⟨hm, hset, hs1, hres2, hK2⟩ := HE0.out
    generalize W.setCell ⟨w.heap.size + 1, 0, none⟩ (.int .i64 (-1)) = X at *
    have mP := put_mod X D (.deferred none)
    have hr2 := (mP.block (w.heap.size + 1) (Array.getElem?_eq_some_iff.1 hs1).1 (by simp; omega)).trans hs1
    have hc2 : (X.putObj D (.deferred none)).cell? ⟨w.heap.size + 1, 0, none⟩ = some (.int .i64 (-1)) := cell_eq hr2 0
    refine ⟨by simp, .inl ⟨_, _, rfl, run_takeDeferred hK2, ?_⟩⟩
    refine ⟨.int .i64 (-1), by simp [results, Try.results40, go_sem, hc2], ?_, ((M2.trans hm).then hset (fun y hy => Or.inr (by have := List.mem_singleton.1 hy; omega))).then mP (fun y hy => Or.inr (by have := List.mem_singleton.1 hy; omega))⟩
    rw [hres2]
end Go.Proofs.Ytacmidlhfcnkiaa
