/- Layer 9: the program's cutWords. Condition: the block is such a dictionary (Pd9). -/
import Derived.Test.YtldnpppbnakcoaaBD
namespace Go.Proofs.Ytldnpppbnakcoaa
open Go.RowKit Go.Shelf
attribute [local go_sem] Oper.semAt_some
set_option linter.unusedVariables false

theorem ownsRow_nil_len {w : World} {e : TypeId} {n cap : Nat} {xs : List Value} (h : w.ownsRow 0 e 1 (.slice none n cap) n xs) : n = 0 := by
  rcases h.2 with ⟨e1, h0⟩ | ⟨g, cp, cur, e1, _⟩
  · exact h0
  · injection e1 with e1; cases e1
theorem kf_mod {B b : Nat} {W W' : World} (m : Mod [b] W W') (hb : b < B) (hB : B ≤ W.heap.size) : KeepsFrom B W W' :=
  ⟨m.size, fun k o hk ho _ => (m.block k (Array.getElem?_eq_some_iff.1 ho).1 (by simp; omega)).trans ho⟩
theorem kq_mod {B b : Nat} {W W' : World} (m : Mod [b] W W') (hB : B ≤ W.heap.size) : Kq B b W W' :=
  ⟨m.size, fun k hk hne => m.block k (by omega) (by simpa using hne)⟩
theorem grown_mod {W W' : World} {row : Option Nat} {B : Nat} (h : W.grownBy W' row) (hr : ∀ r, row = some r → B ≤ r) : ∃ S, Mod S W W' ∧ ∀ x ∈ S, B ≤ x :=
  ⟨row.toList, Mod.of_grown h (by simp), fun x hx => hr x (by simpa using hx)⟩
/-- In a round the orders of a region without 'defer' are those outside of it. -/
theorem wpAnyIn_round {F : Fence} {n : Nat} {P : Program} {md : Region.Mode} {ops : Array Oper} {Q : Exit → Act → World → Prop} (l : Nat) (hro : F.round = none) (hp : ∀ (i : Nat) (o : Oper), ops[i]? = some o → ∀ c, o.op ≠ .defer c) :
    ∀ (fuel : Nat) (listed : Array Bool) (a : Act) (w : World), wpAnyIn F n P md ops Q fuel listed a w → wpAnyIn (F.inRound l) n P md ops Q fuel listed a w := by
  intro fuel
  induction fuel with
  | zero => exact fun _ _ _ h => h
  | succ fuel ih =>
    intro listed a w h
    refine ⟨h.1, fun i hi => ?_⟩
    have h1 := wpOpIn_mono (fun a w => ih (listed.setIfInBounds i true) a w) (h.2 i hi)
    generalize wpAnyIn (F.inRound l) n P md ops Q fuel (listed.setIfInBounds i true) = K at h1 ⊢
    unfold wpOpIn at h1 ⊢
    cases ho : ops[i]? with
    | none => simpa only [ho] using h1
    | some o =>
      simp only [ho] at h1 ⊢
      split
      · rename_i hw
        simp only [hw, if_true] at h1
        refine ⟨h1.1, ?_⟩
        have h2 := h1.2
        rw [Oper.semAt_eq _ _ _ (hp i o ho)] at h2 ⊢
        generalize (execOp a.eval o).run P w = r at h2 ⊢
        cases r with
        | ok x w' => cases x <;> exact h2
        | halt x w' => cases x <;> exact h2
      · rename_i hw
        simp only [hw] at h1
        exact h1
set_option maxRecDepth 100000 in
set_option maxHeartbeats 8000000 in
theorem cutW_calls {w : World} {p : Nat} {T : List Nat} {D : Di} (h : Pd9 w p T D) (x : Nat) (hx : x ≤ D.W.length) :
    Calls Try.prog 43 #[PtD p, .int .i64 (x : Int)] w fun e w' => (∃ v, e = .returned v) ∧ ∃ T', Pd9 w' p T' { D with W := D.W.take x } ∧ TurnD T T' w w' := by
  obtain ⟨v, b, u, Z, hv, rfl⟩ := h
  obtain ⟨A, cap, rfl, hle, hcells⟩ := rowD_open hv.body.rv
  have hlen : D.W.length = Z.length := by rw [hv.eW]; simp
  obtain ⟨n, hn⟩ : ∃ n, n = Z.length := ⟨_, rfl⟩
  have hxn : x ≤ n := by omega
  have hn2 : n ≤ 2000 := by have := hv.dw; omega
  rw [← hn] at hle
  obtain ⟨A', c', hup, hA'⟩ := ptrs_from A n cap x hxn hle
  obtain ⟨c, hc⟩ : ∃ c, c = n - x := ⟨_, rfl⟩
  rw [← hc] at hup
  have HV := Lib.hid hv
  have h0 := hv.c0
  rw [← hn] at h0
  have m1 := (Mod.refl [] w).alloc (.cells #[PtD p] 24)
  have k0 := m1.cell (x := ⟨p, 0, none⟩) (by simp) h0
  have bx := World.cell?_alloc_new w #[PtD p] 24
  have HN := Lib.hid (And.intro hn (And.intro hc (And.intro hlen hle)))
  clear hv h0 hn hc hlen
  refine (callsIn_wide (n := 3)).1 ?_
  refine callsIn_of_wp_marks Try.func43 rfl trivial ?_ rfl
  simp only [Try.ntmps43, List.size_toArray, List.length_cons, List.length_nil, Nat.reduceAdd, Nat.reduceSub, Array.replicate_succ, Array.replicate_zero, List.push_toArray, List.append_toArray, List.nil_append, List.cons_append]
  gi_wp2
  refine ⟨trivial, (back_in Fence.wide 2 trivial rfl A' c c' _).mono ?_⟩
  rintro e w' ⟨rfl, rfl⟩
  gi_wp2
  clear bx k0
  have hsz : ((w.alloc (.cells #[PtD p] 24)).alloc (.cells #[.slice A' c c'] 67)).heap.size = w.heap.size + 2 := by rw [size_allocD, size_allocD]
  have M2 : Mod [] w ((w.alloc (.cells #[PtD p] 24)).alloc (.cells #[.slice A' c c'] 67)) := m1.trans ((Mod.refl [] _).alloc _)
  have bxd : ((w.alloc (.cells #[PtD p] 24)).alloc (.cells #[.slice A' c c'] 67)).cell? ⟨w.heap.size, 0, none⟩ = some (PtD p) := ((Mod.refl [] (w.alloc (.cells #[PtD p] 24))).alloc _).cell (by simp) (by rw [World.cell?_alloc_new]; rfl)
  have bxs : ((w.alloc (.cells #[PtD p] 24)).alloc (.cells #[.slice A' c c'] 67)).cell? ⟨w.heap.size + 1, 0, none⟩ = some (.slice A' c c') := by
    have := World.cell?_alloc_new (w.alloc (.cells #[PtD p] 24)) #[.slice A' c c'] 67
    rw [size_allocD] at this
    rw [this]
    rfl
  generalize (w.alloc (.cells #[PtD p] 24)).alloc (.cells #[.slice A' c c'] 67) = W2 at hsz M2 bxd bxs ⊢
  have hv2 := HV.out.mod M2 (by simp)
  have hbl : b < w.heap.size := HV.out.body.mp.lt
  obtain ⟨npb, nvp, nvb⟩ := hv2.pbv
  have HV2 := Lib.hid hv2
  have hsl : ∀ j, j < c → ∃ g off, A' = some ⟨g, off, none⟩ ∧ g < W2.heap.size ∧ g ≠ b ∧ W2.cell? ⟨g, off + (c - 1 - j), none⟩ = some (PtW (qzZ Z j)) := fun j hj => by
    have hjn : j < Z.length := by have := HN.out; omega
    obtain ⟨A2, cap2, e2, _, hcc⟩ := rowD_open hv2.body.rv
    injection e2 with e2 e3 e4
    subst e2
    obtain ⟨g, hg, hcell⟩ := hcc (n - 1 - j) (by have := HN.out; omega)
    refine ⟨g, x, hA' (by have := HN.out; omega) g hg, ?_, ?_, ?_⟩
    · exact World.block_lt_of_cell? W2 ⟨g, n - 1 - j, none⟩ (hcell.trans (ptsZ_get Z (n - 1 - j) (by have := HN.out; omega)))
    · intro e
      subst e hg
      exact nvb rfl
    · rw [show x + (c - 1 - j) = n - 1 - j by have := HN.out; omega, hcell, ptsZ_get Z (n - 1 - j) (by have := HN.out; omega)]
      have e5 : Z.reverse[n - 1 - j]'(by have := HN.out; simp; omega) = Z[j] := by
        rw [List.getElem_reverse]
        congr 1
        have := HN.out
        omega
      rw [e5]
      simp [qzZ, hjn]
  have hB : w.heap.size + 1 < W2.heap.size := by omega
  refine wpIn_rangeFunc_ownG (w0 := W2) rfl (by omega) (gf := 59) (lb := #[.pointer (some ⟨w.heap.size + 1, 0, none⟩)]) rfl trivial (enters_of Try.func59 (by kernel_rfl) rfl)
    (back_stops Fence.wide 2 trivial rfl (by omega) (w.heap.size + 1) b A' c c' (qzZ Z) (by have := HN.out; omega) W2 hB (by omega) bxs hsl) Kq.trans (kq_put (Nat.le_refl _)) (Below.refl _ _) (fun _ => rfl)
    (fun pre W => MapP W b (mapA Z pre) ∧ Mod [b] W2 W) (fun _ _ _ => False) ?hI (fun _ _ _ _ _ hs _ _ => hs) ⟨hv2.body.mp, Mod.refl _ _⟩
    (fun y => { tmps := #[PtD p, Value.int IntKind.i64 ↑x, Value.pointer (some { block := w.heap.size, off := 0 }), undef, undef, PtW (qzZ Z y.1),
          PtD p, Value.pointer (some { block := p, off := 0 }), Value.pointer (some { block := p, off := 0 }),
          Value.slice A n cap, Value.int IntKind.i64 ↑x, Value.slice A' c c',
          Value.func (Fn.func 59) #[] #[Value.pointer (some { block := w.heap.size + 1, off := 0 })], Value.int IntKind.i64 ((c - 1 - y.1 : Nat) : Int), PtW (qzZ Z y.1),
          undef, undef, undef, undef, undef, undef, undef, undef, undef, undef, undef, undef, undef, undef, undef,
          undef, undef, undef, undef, undef, undef, undef, undef, undef, undef], defers := [] }) ?assign ?body ?done ?stop
  case hI =>
    intro s W W' row hs hg hr
    obtain ⟨S, mS, hS⟩ := grown_mod hg (B := W2.heap.size) fun r e => (hr r e).1
    refine ⟨hs.1.mod mS fun hx => by have := hS b hx; omega, hs.2.then mS fun y hy => Or.inr (hS y hy)⟩
  case assign =>
    intro l y W K hK
    simp only [encB]
    gi_wp2
    exact hK
  case stop =>
    rintro D c pre W _ _ h _
    exact h.elim
  case body =>
    rintro l pre y W ⟨hmp, hm⟩ hlen
    have hyn : y.1 < Z.length := by have := y.2; have := HN.out; omega
    obtain ⟨a, wo, hal, npq, nbq, _⟩ := HV2.out.word y.1 hyn
    have wo2 := wo.mod hm (by simpa using fun e => nbq e.symm)
    have c3 := wo2.c3
    have c4 := wo2.c4
    rw [hal] at c3
    have hbx := hm.cell (x := ⟨w.heap.size, 0, none⟩) (by simp; omega) bxd
    have c1 := hm.cell (x := ⟨p, 1, none⟩) (by simpa using npb) HV2.out.c1
    have K1 : CallsIn Fence.wide 0 Try.prog 55 #[PtD p, .int .i64 (lzZ Z y.1), ptO (hzZ Z y.1)] W.drew _ := (callsIn_wide.2 (end_calls (w := W.drew) c1 (hmp.mod (Mod.refl [] W).drew (by simp)) (lzZ Z y.1) (hzZ Z y.1)))
    have HEnd : RowKit.Hid (∀ W' : World, MapP W' b (updF (mapA Z pre) (lzZ Z y.1) (hzZ Z y.1)) → Mod [b] W.drew W' → KeepsFrom W2.heap.size W W' ∧ Kq W2.heap.size b W W' ∧ MapP W' b (mapA Z (pre ++ [y])) ∧ Mod [b] W2 W') := Lib.hid fun W' g1 g2 => by
      have g3 : Mod [b] W W' := (Mod.refl [b] W).drew.trans g2
      have hbs : b < W2.heap.size := by omega
      exact ⟨kf_mod g3 hbs hm.size, kq_mod g3 hm.size, by rw [mapA_snoc]; exact g1, hm.trans g3⟩
    obtain ⟨lz, hlz⟩ : ∃ lz, lz = lzZ Z y.1 := ⟨_, rfl⟩
    obtain ⟨hz, hhz⟩ : ∃ hz, hz = ptO (hzZ Z y.1) := ⟨_, rfl⟩
    obtain ⟨qz, hqz⟩ : ∃ qz, qz = qzZ Z y.1 := ⟨_, rfl⟩
    rw [← hlz, ← hhz] at K1; rw [← hlz] at HEnd
    rw [← hlz, ← hqz] at c3
    rw [← hhz, ← hqz] at c4
    have hmx : Try.prog.follows .mixedOrders = true := by kernel_rfl
    gi_wp2
    rw [← hqz]
    have HQ := Lib.hid (And.intro hqz (And.intro hlz hhz))
    clear hqz hlz hhz
    refine wpIn_region_any hmx ?_
    change wpAnyIn _ _ _ _ _ _ _ _ _ (World.drew _)
    refine wpAnyIn_round l rfl (fun i o ho c => ?_) _ _ _ _ ?_
    · rcases i with _ | _ | _ | _ | _ | _ | _ | _ | _ | _ | i <;> cases ho <;> intro h <;> cases h
    refine wpAnyIn_take (i := 1) (v := PtW qz) rfl rfl (by kernel_rfl) (by kernel_rfl) (by kernel_rfl) (fun _ _ _ h => h) ⟨Or.inl ⟨by rfl, fun w => by go_simp⟩, fun _ => rfl⟩ ?_
    refine wpAnyIn_take (i := 2) (v := PtW qz) rfl rfl (by kernel_rfl) (by kernel_rfl) (by kernel_rfl) (fun _ _ _ h => h) ⟨Or.inl ⟨by rfl, fun w => by go_simp⟩, fun _ => rfl⟩ ?_
    refine wpAnyIn_take (i := 3) (v := Value.pointer (some ⟨qz, 3, none⟩)) rfl rfl (by kernel_rfl) (by kernel_rfl) (by kernel_rfl) (fun _ _ _ h => h) ⟨Or.inl ⟨by rfl, fun w => by go_simp⟩, fun _ => rfl⟩ ?_
    refine wpAnyIn_take (i := 5) (v := PtW qz) rfl rfl (by kernel_rfl) (by kernel_rfl) (by kernel_rfl) (fun _ _ _ h => h) ⟨Or.inl ⟨by rfl, fun w => by go_simp⟩, fun _ => rfl⟩ ?_
    refine wpAnyIn_take (i := 6) (v := PtW qz) rfl rfl (by kernel_rfl) (by kernel_rfl) (by kernel_rfl) (fun _ _ _ h => h) ⟨Or.inl ⟨by rfl, fun w => by go_simp⟩, fun _ => rfl⟩ ?_
    refine wpAnyIn_take (i := 7) (v := Value.pointer (some ⟨qz, 4, none⟩)) rfl rfl (by kernel_rfl) (by kernel_rfl) (by kernel_rfl) (fun _ _ _ h => h) ⟨Or.inl ⟨by rfl, fun w => by go_simp⟩, fun _ => rfl⟩ ?_
    refine wpAnyIn_ready (rs := [0, 4, 8]) (by kernel_rfl) (by simp) ?_
    refine AllReadyIn.cons rfl (fun K hK => ?_) ?_
    · go_simp
      refine hK _ _ ?_; clear hK K
      refine wpAnyIn_ready (rs := [4, 8]) (by kernel_rfl) (by simp) ?_
      refine AllReadyIn.cons rfl (fun K hK => ?_) ?_
      · go_simp
        refine hK _ _ ?_; clear hK K
        refine wpAnyIn_ready (rs := [8]) (by kernel_rfl) (by simp) ?_
        refine AllReadyIn.cons rfl (fun K hK => ?_) ?_
        · go_simp
          refine hK _ _ ?_; clear hK K
          refine wpAnyIn_ready (rs := [9]) (by kernel_rfl) (by simp) ?_
          refine AllReadyIn.cons rfl (fun K hK => ?_) ?_
          · go_simp
            refine ⟨trivial, K1.mono ?_⟩
            rintro e W' ⟨⟨v, rfl⟩, g1, g2⟩
            refine hK _ _ ?_; clear hK K
            refine wpAnyIn_done (by kernel_rfl) ?_ _
            exact HEnd.out W' g1 g2
          exact AllReadyIn.nil
        exact AllReadyIn.nil
      refine AllReadyIn.cons rfl (fun K hK => ?_) ?_
      · go_simp
        refine hK _ _ ?_; clear hK K
        refine wpAnyIn_ready (rs := [4]) (by kernel_rfl) (by simp) ?_
        refine AllReadyIn.cons rfl (fun K hK => ?_) ?_
        · go_simp
          refine hK _ _ ?_; clear hK K
          refine wpAnyIn_ready (rs := [9]) (by kernel_rfl) (by simp) ?_
          refine AllReadyIn.cons rfl (fun K hK => ?_) ?_
          · go_simp
            refine ⟨trivial, K1.mono ?_⟩
            rintro e W' ⟨⟨v, rfl⟩, g1, g2⟩
            refine hK _ _ ?_; clear hK K
            refine wpAnyIn_done (by kernel_rfl) ?_ _
            exact HEnd.out W' g1 g2
          exact AllReadyIn.nil
        exact AllReadyIn.nil
      exact AllReadyIn.nil
    refine AllReadyIn.cons rfl (fun K hK => ?_) ?_
    · go_simp
      refine hK _ _ ?_; clear hK K
      refine wpAnyIn_ready (rs := [0, 8]) (by kernel_rfl) (by simp) ?_
      refine AllReadyIn.cons rfl (fun K hK => ?_) ?_
      · go_simp
        refine hK _ _ ?_; clear hK K
        refine wpAnyIn_ready (rs := [8]) (by kernel_rfl) (by simp) ?_
        refine AllReadyIn.cons rfl (fun K hK => ?_) ?_
        · go_simp
          refine hK _ _ ?_; clear hK K
          refine wpAnyIn_ready (rs := [9]) (by kernel_rfl) (by simp) ?_
          refine AllReadyIn.cons rfl (fun K hK => ?_) ?_
          · go_simp
            refine ⟨trivial, K1.mono ?_⟩
            rintro e W' ⟨⟨v, rfl⟩, g1, g2⟩
            refine hK _ _ ?_; clear hK K
            refine wpAnyIn_done (by kernel_rfl) ?_ _
            exact HEnd.out W' g1 g2
          exact AllReadyIn.nil
        exact AllReadyIn.nil
      refine AllReadyIn.cons rfl (fun K hK => ?_) ?_
      · go_simp
        refine hK _ _ ?_; clear hK K
        refine wpAnyIn_ready (rs := [0]) (by kernel_rfl) (by simp) ?_
        refine AllReadyIn.cons rfl (fun K hK => ?_) ?_
        · go_simp
          refine hK _ _ ?_; clear hK K
          refine wpAnyIn_ready (rs := [9]) (by kernel_rfl) (by simp) ?_
          refine AllReadyIn.cons rfl (fun K hK => ?_) ?_
          · go_simp
            refine ⟨trivial, K1.mono ?_⟩
            rintro e W' ⟨⟨v, rfl⟩, g1, g2⟩
            refine hK _ _ ?_; clear hK K
            refine wpAnyIn_done (by kernel_rfl) ?_ _
            exact HEnd.out W' g1 g2
          exact AllReadyIn.nil
        exact AllReadyIn.nil
      exact AllReadyIn.nil
    refine AllReadyIn.cons rfl (fun K hK => ?_) ?_
    · go_simp
      refine hK _ _ ?_; clear hK K
      refine wpAnyIn_ready (rs := [0, 4]) (by kernel_rfl) (by simp) ?_
      refine AllReadyIn.cons rfl (fun K hK => ?_) ?_
      · go_simp
        refine hK _ _ ?_; clear hK K
        refine wpAnyIn_ready (rs := [4]) (by kernel_rfl) (by simp) ?_
        refine AllReadyIn.cons rfl (fun K hK => ?_) ?_
        · go_simp
          refine hK _ _ ?_; clear hK K
          refine wpAnyIn_ready (rs := [9]) (by kernel_rfl) (by simp) ?_
          refine AllReadyIn.cons rfl (fun K hK => ?_) ?_
          · go_simp
            refine ⟨trivial, K1.mono ?_⟩
            rintro e W' ⟨⟨v, rfl⟩, g1, g2⟩
            refine hK _ _ ?_; clear hK K
            refine wpAnyIn_done (by kernel_rfl) ?_ _
            exact HEnd.out W' g1 g2
          exact AllReadyIn.nil
        exact AllReadyIn.nil
      refine AllReadyIn.cons rfl (fun K hK => ?_) ?_
      · go_simp
        refine hK _ _ ?_; clear hK K
        refine wpAnyIn_ready (rs := [0]) (by kernel_rfl) (by simp) ?_
        refine AllReadyIn.cons rfl (fun K hK => ?_) ?_
        · go_simp
          refine hK _ _ ?_; clear hK K
          refine wpAnyIn_ready (rs := [9]) (by kernel_rfl) (by simp) ?_
          refine AllReadyIn.cons rfl (fun K hK => ?_) ?_
          · go_simp
            refine ⟨trivial, K1.mono ?_⟩
            rintro e W' ⟨⟨v, rfl⟩, g1, g2⟩
            refine hK _ _ ?_; clear hK K
            refine wpAnyIn_done (by kernel_rfl) ?_ _
            exact HEnd.out W' g1 g2
          exact AllReadyIn.nil
        exact AllReadyIn.nil
      exact AllReadyIn.nil
    exact AllReadyIn.nil
  case done =>
    rintro Dd ys W hD rfl ⟨hmp, hm⟩ hK
    rw [mapA_upC Z c c (Nat.le_refl c) (by have := HN.out; omega)] at hmp
    have hrvW := rowD_mod hv2.body.rv hm (fun g hg hp => nvb (by rw [hg]; simpa using hp))
    rw [← HN.out.1] at hrvW
    obtain ⟨W3, hcl, hrv3, hm3⟩ := clear_at (A' := A') (c' := c') (c := c) hrvW hxn HN.out.2.1 hA'
    have hvn : (Value.slice A Z.length cap).ownBlock = (Value.slice A n cap).ownBlock := by cases A <;> rfl
    rw [hvn] at nvp nvb
    have hgl : ∀ g, (Value.slice A n cap).ownBlock = some g → g < w.heap.size := fun g hg => (HV.out.body.rv.lt g (by rw [hvn]; exact hg)).2
    have hwn : w.heap.size ∉ (Value.slice A n cap).ownBlock.toList := by
      intro e
      have := hgl w.heap.size (by simpa using e)
      omega
    have hpo : p ∉ (Value.slice A n cap).ownBlock.toList := by simpa using nvp
    have hpl := HV.out.lp
    have hpb : p ∉ [b] := by simpa using npb
    have hc0 := hv2.c0
    rw [← HN.out.1] at hc0
    have hms := hm.size
    have bW := hm.cell (x := ⟨w.heap.size, 0, none⟩) (by simp; omega) bxd
    have cW := hm.cell (x := ⟨p, 0, none⟩) hpb hc0
    have bW3 := hm3.cell hwn bW
    have cW3 := hm3.cell hpo cW
    have fW3 : W3.frozen? ⟨p, 0, none⟩ = false := (hm3.frozen hpo (show p < W.heap.size by omega)).trans ((hm.frozen hpb (show p < W2.heap.size by omega)).trans (hv2.f 0))
    have hK3 : W3.heap[Dd]? = some (Obj.deferred (some [])) := by
      rw [hm3.block Dd (Array.getElem?_eq_some_iff.1 hK).1 (by intro e; have := hgl Dd (by simpa using e); omega)]
      exact hK
    have hup2 := ptrs_upto A n cap x (by omega)
    have hvn2 := HV.out
    rw [← HN.out.1] at hvn2
    have HF := Lib.hid (fun W4 (hm4 : Mod [] W3 W4) o => cut_fin hvn2 HN.out.1 hxn HN.out.2.1 M2 hm hmp hrv3 hm3 hm4 (by omega : w.heap.size ≤ Dd) o)
    have hpD : p ≠ Dd := by omega
    clear hvn2 hc0 hrv3 hm3 hrvW hmp hms hm hv2 HV2 HV hgl hwn hpo hpb bxd bxs hsl hcells hK
    gi_wp2
    have hmx : Try.prog.follows .mixedOrders = true := by kernel_rfl
    gi_region
    all_goals gi_wp2
    have hK4 : (W3.setCell ⟨p, 0, none⟩ (.slice A x cap)).drew.heap[Dd]? = some (Obj.deferred (some [])) := (((Mod.refl [p] W3).set (x := ⟨p, 0, none⟩) (Or.inl (by simp)) (Value.slice A x cap)).drew.block Dd (Array.getElem?_eq_some_iff.1 hK3).1 (by simpa using fun e => hpD e.symm)).trans hK3
    have hfin := HF.out W3.drew (Mod.refl [] W3).drew (Obj.deferred none)
    refine ⟨by simp, .inl ⟨_, _, rfl, run_takeDeferred hK4, ?_⟩⟩
    refine ⟨_, results_none rfl _ _ _, ⟨_, rfl⟩, ?_⟩
    rw [← HN.out.1]
    exact hfin
end Go.Proofs.Ytldnpppbnakcoaa
