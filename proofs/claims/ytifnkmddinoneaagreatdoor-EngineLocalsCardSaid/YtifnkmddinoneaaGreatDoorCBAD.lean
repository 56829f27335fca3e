/- Layer 10: the program's Loops. Condition: there are at most 1000000 instructions. Layer 10: the program's Loops, walked. Condition: there are at most 1000000 instructions. -/
import Derived.Deep.LoopGhost
import Derived.Deep.Cut
import Derived.Lib.LazyBuf
import Derived.Test.YtifnkmddinoneaaGreatDoorCBAA
set_option maxRecDepth 100000
namespace Go.Proofs.YtifnkmddinoneaaGreatDoor.L10
open Go.RowKit
set_option linter.unusedVariables false

/-- f answers how many loops are open; or nothing. -/
def TellsL (L : List Xi) (w : World) (e : Ending) (w' : World) : Prop :=
  (∃ b o, e = .returned (.tuple #[.slice (some ⟨b, 0, none⟩) o.length o.length, .bool true]) ∧ Lab L o ∧ Iv w' b o ∧ Mod [] w w' ∧ w.heap.size ≤ b) ∨
  (e = .returned (.tuple #[.slice none 0 0, .bool false]) ∧ Bad L ∧ Mod [] w w')
structure Lm (w0 w : World) (b : Nat) (o : List Int) (z : Value) (l : List Nat) : Prop where
  iv : Iv w b o
  row : Ir w w0.heap.size z (l.map fun (j : Nat) => (j : Int))
  ne : z.ownBlock ≠ some b
  m : Mod [] w0 w
  nb : w0.heap.size ≤ b
theorem Lm.far {w0 w w' : World} {b : Nat} {o : List Int} {z : Value} {l : List Nat} (h : Lm w0 w b o z l) (m : Mod [] w w') : Lm w0 w' b o z l := ⟨h.iv.far m, h.row.far m, h.ne, h.m.trans m, h.nb⟩
theorem Lm.pop {w0 w : World} {b : Nat} {o : List Int} {A : Option Addr} {n cap : Nat} {l : List Nat} {i : Nat} (h : Lm w0 w b o (.slice A n cap) (l ++ [i])) : Lm w0 w b o (.slice A l.length cap) l := by
  have h2 := h.row
  rw [List.map_append, List.map_singleton] at h2
  have h3 := h2.pop
  rw [List.length_map] at h3
  exact ⟨h.iv, h3, fun e => h.ne (by rw [← e]; cases A <;> rfl), h.m, h.nb⟩
theorem Lm.set {w0 w : World} {b : Nat} {o : List Int} {z : Value} {l : List Nat} (h : Lm w0 w b o z l) (k : Nat) (v : Int) : Lm w0 (w.setCell ⟨b, k, none⟩ (.int .i64 v)) b (o.set k v) z l :=
  ⟨h.iv.set k v, h.row.keep (set_mod _ _ _ _) h.ne, h.ne, h.m.then (set_mod _ _ _ _) (by simpa using h.nb), h.nb⟩
theorem Lm.app {w0 w : World} {b : Nat} {o : List Int} {z : Value} {l : List Nat} (h : Lm w0 w b o z l) (hl : l.length ≤ 1000000000) (t : Nat) :
    ∃ A n cap w', (appInts 72 #[z, .slice (some ⟨w.heap.size, 0, none⟩) 1 1]).run Tryz.prog (w.alloc (.cells #[.int .i64 (t : Int)] 3)) = .ok (.slice A n cap) w' ∧ n = l.length + 1 ∧ Lm w0 w' b o (.slice A n cap) (l ++ [t]) ∧ Mod z.ownBlock.toList w w' ∧ ((Value.slice A n cap).ownBlock = z.ownBlock ∨ (Value.slice A n cap).ownBlock = some (w.heap.size + 1)) := by
  have h' := h.far ((Mod.refl [] w).alloc (.cells #[.int .i64 (t : Int)] 3))
  obtain ⟨A, n, cap, w', h1, h2, h3, h4, h5⟩ := h'.row.app1 h'.m.size (by simpa using hl) 72 ⟨w.heap.size, 0, none⟩ 1 t (one_int w t)
  have mm : Mod z.ownBlock.toList (w.alloc (.cells #[.int .i64 (t : Int)] 3)) w' := Mod.of_grown h4 (by simp)
  refine ⟨A, n, cap, w', h1, by simpa using h2, ⟨h'.iv.mod mm fun hb => h.ne (by simpa using hb), ?_, ?_, h'.m.then mm fun x hx => Or.inr (h'.row.own x (by simpa using hx)).1, h.nb⟩, ((Mod.refl _ w).alloc _).trans mm, by rw [size_allocI] at h5; exact h5⟩
  · rw [List.map_append, List.map_singleton]
    exact h3
  · rcases h5 with e | e
    · rw [e]; exact h.ne
    · rw [e]
      intro e2
      injection e2 with e2
      have := h'.iv.lt
      omega
theorem Sr1.idx {L : List Xi} {o : List Int} {l : List Nat} {i' i : Nat} (h : Sr1 L o (l ++ [i]) i' 2) : ∃ v x, o[i]? = some v ∧ v ≠ -1 ∧ L[i]? = some x := by
  obtain ⟨v, h1, h2⟩ := h.hl i (by simp)
  have hi := (List.getElem?_eq_some_iff.1 h1).1
  rw [h.b.len] at hi
  exact ⟨v, L[i], h1, h2, List.getElem?_eq_getElem hi⟩
end Go.Proofs.YtifnkmddinoneaaGreatDoor.L10
namespace Go.Proofs.YtifnkmddinoneaaGreatDoor.L10
open Go.RowKit
set_option linter.unusedVariables false

set_option maxHeartbeats 4000000 in
set_option maxRecDepth 100000 in
theorem loops_calls {w : World} {A : Option Addr} {n cap : Nat} {L : List Xi} (hL : InsAt w A L) (hn : n = L.length) (hb : n ≤ 1000000) : Calls Tryz.prog 63 #[defV A n cap] w (TellsL L w) := by
  have hM := Mod.refl [] w
  by_cases h0 : n = 0
  · subst h0
    have hL0 : L = [] := List.eq_nil_of_length_eq_zero hn.symm
    subst hL0
    clear hn hL hb
    go_enter Tryz.func63, Tryz.ntmps63
    go_wp2
    go_step3
    go_wp2
    try rw [Exit.noGoto_ret]
    go_ret2
    exact Or.inr ⟨rfl, bad_nil, hM.alloc _⟩
  · have h0I : ((n : Int) == 0) = false := by rw [beq_eq_false_iff_ne]; omega
    have HL := Lib.hid hL
    have HN := Lib.hid hn
    have H1 := Lib.hid (fun W => nonereached_calls W n (by omega))
    clear hL hn
    go_enter Tryz.func63, Tryz.ntmps63
    go_wp2_with fail
    go_step3
    go_wp2_with fail
    refine (H1.out _).mono ?_
    unfold TellsB
    rw [List.length_replicate]
    rintro e w1 ⟨b, rfl, h1, h2, h3⟩
    have hc0 := h1.cell (k := 0) (v := -1) (by rw [List.getElem?_replicate, if_pos (by omega)])
    have hf0 := h1.free 0
    have HM0 : RowKit.Hid (Lm (w.alloc (.cells #[.slice A n cap] 24)) ((w1.setCell ⟨b, 0, none⟩ (.int .i64 0)).alloc (.cells #[.int .i64 0] 3)) b ((List.replicate n (-1)).set 0 0) (.slice (some ⟨w1.heap.size, 0, none⟩) 1 1) [0]) := by
      refine Lib.hid ⟨(h1.set 0 0).far ((Mod.refl [] _).alloc _), ?_, ?_, ((h2.then (set_mod w1 b 0 (.int .i64 0)) (by simpa using h3)).alloc _), h3⟩
      · have := Ir.one (w1.setCell ⟨b, 0, none⟩ (.int .i64 0)) (w.alloc (.cells #[.slice A n cap] 24)).heap.size (by simpa using h2.size) 0
        simpa using this
      · have := h1.lt
        intro e
        have e : w1.heap.size = b := by injection e
        omega
    have hd : (w.alloc (.cells #[.slice A n cap] 24)).cell? ⟨w.heap.size, 0, none⟩ = some (.slice A n cap) := by rw [World.cell?_alloc_new]; rfl
    have HD := Lib.hid hd
    have HL1 := Lib.hid (HL.out.far ((Mod.refl [] w).alloc (.cells #[.slice A n cap] 24)))
    have HMw := Lib.hid ((Mod.refl [] w).alloc (.cells #[.slice A n cap] 24))
    obtain ⟨w0, hw0⟩ : ∃ w0, w0 = w.alloc (.cells #[.slice A n cap] 24) := ⟨_, rfl⟩
    rw [← hw0] at HM0 HD HL1 HMw
    clear h1 h2 h3 hd HL H1 hw0 hM
    go_wp2_with fail
    clear hc0 hf0
    go_step3
    go_wp2_with fail
    go_loopg [4, 5] (2 * cnt ((List.replicate n (-1)).set 0 0) + 1) (fun g y z wr => ∃ (A2 : Option Addr) (m c2 : Nat) (o : List Int) (l : List Nat), y = .slice (some ⟨b, 0, none⟩) n n ∧ z = .slice A2 m c2 ∧ m = l.length ∧ RowKit.Hid (Lm w0 wr b o (.slice A2 m c2) l ∧ (∃ i, Sr1 L o l i 2) ∧ 2 * cnt o + l.length = g ∧ cnt o + l.length ≤ L.length))
    case atStart =>
      refine ⟨_, 1, 1, _, [0], rfl, rfl, rfl, Lib.hid ⟨HM0.out, ⟨0, Sr1.start HN.out (by omega)⟩, by simp, ?_⟩⟩
      have := cnt_set (o := List.replicate n (-1)) (t := 0) (v := 0) (by rw [List.getElem?_replicate, if_pos (by omega)]) (by omega)
      have h2 := cnt_le (List.replicate n (-1))
      rw [List.length_replicate] at h2
      have h3 := HN.out
      simp only [List.length_singleton]
      omega
    case round =>
      clear HM0
      obtain ⟨A2, m, c2, o, l, rfl, rfl, hm, hi⟩ := hrel
      have q : ∀ W, (binOp .neq 72 (.slice (some ⟨b, 0, none⟩) n n) (.slice none 0 0)).run Tryz.prog W = .ok (.bool true) W := fun W => run_neq_slice_nil W _ _ (some ⟨b, 0, none⟩) n n Tryz.underlying72
      have q0 : ∀ W, (binOp .neq 72 (.slice none 0 0) (.slice none 0 0)).run Tryz.prog W = .ok (.bool false) W := fun W => run_neq_slice_nil W _ _ none 0 0 Tryz.underlying72
      rcases List.eq_nil_or_concat l with rfl | ⟨l', i, rfl⟩
      · obtain rfl : m = 0 := hm
        obtain ⟨hi1, ⟨i, hi2⟩, hi3⟩ := hi.out
        have HI := Lib.hid (And.intro hi1 hi2.lab)
        clear hi hi1 hi2 hi3
        go_wp2_with fail
        try rw [Exit.noGoto_ret]
        go_ret2
        have e : n = o.length := by rw [HI.out.2.len]; exact HN.out
        exact Or.inl ⟨b, o, by rw [← e]; rfl, HI.out.2, HI.out.1.iv, HMw.out.trans HI.out.1.m, Nat.le_trans HMw.out.size HI.out.1.nb⟩
      · rw [List.concat_eq_append] at hi hm
        obtain ⟨hi1, ⟨i', hi2⟩, hi3, hi4⟩ := hi.out
        have hml : m = l'.length + 1 := by rw [hm]; simp
        obtain ⟨q1, hq0⟩ : ∃ q0, q0 = l'.length := ⟨_, rfl⟩
        rw [← hq0] at hml
        have HQ := Lib.hid hq0
        clear hm hi
        subst hml
        obtain ⟨v, x, hv, hv0, hx⟩ := hi2.idx
        obtain ⟨B, off, rfl, hat, hwx⟩ := (HL1.out.far hi1.m).get hx
        have hil : i < n := by rw [HN.out]; exact (List.getElem?_eq_some_iff.1 hx).1
        have hilI : (i : Int) < (n : Int) := by omega
        have hiI : (i : Int) ≤ 1000000000 := by omega
        have hd := hi1.m.cell (by simp) HD.out
        obtain ⟨A3, c3, e3, hrow, _, hi5, hi6⟩ := hi1.row.opened
        have hi5 : q1 + 1 ≤ c3 := by rw [hq0]; simpa using hi5
        obtain ⟨rfl, rfl⟩ : A2 = A3 ∧ c2 = c3 := by injection e3 with a b c; exact ⟨a, c⟩
        have hq1 : (q1 : Int) < 9223372036854775807 := by omega
        obtain ⟨G, og, rfl, hg⟩ := hrow l'.length (by simp)
        have hg : wr.cell? ⟨G, og + q1, none⟩ = some (.int .i64 (i : Int)) := by rw [hq0, hg]; simp
        have hc0 := hat.c0
        have hc1 := hat.c1
        have hc2 := hat.c2
        have hop : wr.cell? ⟨b, i, none⟩ = some (.int .i64 v) := hi1.iv.cell hv
        have HW := Lib.hid (fun W => ways_calls W x i (by omega))
        have HI := Lib.hid (And.intro (show Lm w0 wr b o (.slice (some ⟨G, og, none⟩) q1 c2) l' by rw [hq0]; exact hi1.pop) hi2.open)
        have HV := Lib.hid (And.intro hv (And.intro hv0 (And.intro hx hwx)))
        have HG := Lib.hid (And.intro hi3 hi4)
        clear hi1 hi2 hi3 hi4 hv hv0 hx hwx hat hrow e3 hq0
        go_wp2_with fail
        refine (HW.out _).mono ?_
        rintro e w2 ⟨AW, capW, rfl, hway, hm2, hnew⟩
        obtain ⟨W, hW⟩ : ∃ W, W = waysX x i := ⟨_, rfl⟩
        rw [← hW] at hway
        rw [← hW]
        obtain ⟨nW, hnW⟩ : ∃ nW, nW = W.length := ⟨_, rfl⟩
        rw [← hnW]
        have hn2 : nW ≤ 2 := by rw [hnW, hW]; exact ways_two x i
        have HWW := Lib.hid (And.intro hW hnW)
        have HI2 := Lib.hid (And.intro (HI.out.1.far hm2) (And.intro HI.out.2 (And.intro (show WaysAt w2 AW W ∧ ∀ a, AW = some a → a.block ≠ b ∧ (Value.slice (some ⟨G, og, none⟩) q1 c2).ownBlock ≠ some a.block from ⟨hway, fun a ha => ⟨by have := hnew a ha; have := HI.out.1.iv.lt; omega, fun e => by have := hnew a ha; have := (HI.out.1.row.own _ e).2; omega⟩⟩) (show 2 * cnt o + l'.length + 1 ≤ gk ∧ cnt o + l'.length ≤ L.length by
          have h1 := HG.out.1
          have h2 := HG.out.2
          rw [List.length_append, List.length_singleton] at h1 h2
          omega))))
        obtain ⟨gO, hgO⟩ : ∃ gO, gO = gk := ⟨_, rfl⟩
        rw [← hgO] at HI2
        have HGO := Lib.hid hgO
        clear hd hg hc0 hc1 hc2 hop HI HG hway hW hnW hgO HW
        go_wp2_with fail
        go_loopg [4, 5, 43] nW (fun g2 x4 z y wy => ∃ (k : Nat) (A2 : Option Addr) (m c2 : Nat) (o : List Int) (l : List Nat), k + g2 = nW ∧ x4 = .slice (some ⟨b, 0, none⟩) n n ∧ z = .slice A2 m c2 ∧ y = .int .i64 (k : Int) ∧ m = l.length ∧ RowKit.Hid (Lm w0 wy b o (.slice A2 m c2) l ∧ Sr1 L o l i k ∧ (WaysAt wy AW W ∧ ∀ a, AW = some a → a.block ≠ b ∧ (Value.slice A2 m c2).ownBlock ≠ some a.block) ∧ 2 * cnt o + l.length + 1 ≤ gO ∧ cnt o + l.length ≤ L.length))
        case atStart => exact ⟨0, _, _, _, o, l', by omega, rfl, rfl, rfl, HQ.out, HI2⟩
        case round =>
          clear HI2
          obtain ⟨k, A4, m4, c4, o4, l4, hk, rfl, rfl, rfl, hm4, hi⟩ := hrel
          obtain ⟨hi1, hi2, hi3, hi4, hi5⟩ := hi.out
          clear hi
          by_cases hlt : k < nW
          · have hltI : (k : Int) < (nW : Int) := by omega
            obtain ⟨⟨t, m⟩, htm⟩ : ∃ tm, W[k]? = some tm := ⟨_, List.getElem?_eq_getElem (by rw [← HWW.out.2]; exact hlt)⟩
            have htm' : (waysX x i)[k]? = some (t, m) := by rw [← HWW.out.1]; exact htm
            have hmm := ways_more x i _ (List.mem_of_getElem? htm')
            simp only at hmm
            obtain ⟨b2, rfl, hcw1, hcw2⟩ := hi3.1 k (List.getElem?_eq_some_iff.1 htm).1
            rw [(List.getElem?_eq_some_iff.1 htm).2] at hcw1 hcw2
            simp only at hcw1 hcw2
            obtain ⟨v', hv', hvn⟩ := hi2.hi
            have hvl := hi2.b.get hv'
            have hol : (o4.length : Int) = n := by rw [hi2.b.len]; have := HN.out; omega
            obtain ⟨s, hs⟩ : ∃ s, s = v' + m := ⟨_, rfl⟩
            have hsw : wrap64 (v' + m) = s := by rw [hs]; apply wrap_id; unfold I64; omega
            have hm1 := (Mod.refl [] wr).alloc (.cells #[.int .i64 t, .int .i64 m] 162)
            have hcv := (hi1.iv.far hm1).cell hv'
            have hd := (hi1.m.trans hm1).cell (by simp) HD.out
            have HM1 := Lib.hid hm1
            clear hm1
            have HX := Lib.hid (fun W => isindex_calls W (some ⟨B, off, none⟩) n cap t)
            have HS := Lib.hid (And.intro hs (And.intro hv' (And.intro hvn htm')))
            have HJ := Lib.hid (And.intro hi1 (And.intro hi2 (And.intro hi4 (And.intro hi5 hm4))))
            have HY := Lib.hid hi3
            have HK := Lib.hid hk
            clear hi1 hi2 hi3 hi4 hi5 hm4 hvl hol hs hv' hvn htm htm' hmm hk
            by_cases hneg : s < 0
            · have hbad : RowKit.Hid (Bad L) := Lib.hid (HJ.out.2.1.b.bad HS.out.2.1 HS.out.2.2.1 HV.out.2.2.1 (List.mem_of_getElem? HS.out.2.2.2) (Or.inl (by rw [← HS.out.1]; exact hneg)))
              go_wp2_with fail
              go_region
              all_goals
                go_wp2_with fail
                try rw [Exit.noGoto_ret]
                go_ret2
                exact Or.inr ⟨rfl, hbad.out, HMw.out.trans (HJ.out.1.m.trans HM1.out).drew⟩
            · have hnegb : decide (s < 0) = false := decide_eq_false hneg
              by_cases hin : 0 ≤ t ∧ t < (n : Int)
              · obtain ⟨t', rfl⟩ := Int.eq_ofNat_of_zero_le hin.1
                have htn : t' < n := by omega
                have htnI : (t' : Int) < (n : Int) := by omega
                obtain ⟨u, hu⟩ : ∃ u, o4[t']? = some u := ⟨_, List.getElem?_eq_getElem (by rw [HJ.out.2.1.b.len]; have := HN.out; omega)⟩
                rw [decide_eq_true hin] at HX
                clear hin
                go_wp2_with fail
                go_region
                all_goals
                  go_wp2_with fail
                  refine (HX.out _).mono ?_
                  rintro e w3 ⟨rfl, hm3⟩
                  have hM3 := HM1.out.drew.trans hm3
                  have hL3 := HJ.out.1.far hM3
                  have hcq := hm3.cell (x := ⟨wr.heap.size, 0, none⟩) (by simp) (show ((wr.alloc (.cells #[.int .i64 (t' : Int), .int .i64 m] 162)).drew).cell? ⟨wr.heap.size, 0, none⟩ = some (.int .i64 (t' : Int)) from by show (wr.alloc _).cell? _ = _; rw [World.cell?_alloc_new]; rfl)
                  have hc3 := hL3.iv.cell hu
                  have hf3 := hL3.iv.free t'
                  have HM3 := Lib.hid hM3
                  have HL3 := Lib.hid hL3
                  clear hM3 hL3 hm3
                  by_cases hu1 : u = -1
                  · subst hu1
                    obtain ⟨A5, n5, c5, w5, hr5, hn5, hL5, hm5, ho5⟩ := (HL3.out.set t' s).app (by have := HJ.out.2.2.2.1; have := HN.out; omega) t'
                    rw [show (w3.setCell ⟨b, t', none⟩ (.int .i64 s)).heap.size = w3.heap.size by simp] at hr5
                    have hnb : wr.heap.size ≠ b := by have := HJ.out.1.iv.lt; omega
                    have hcq2 := ((set_mod w3 b t' (.int .i64 s)).cell (x := ⟨wr.heap.size, 0, none⟩) (by simpa using hnb) hcq)
                    have HU := Lib.hid (And.intro hu (And.intro hL5 hn5))
                    rw [show (w3.setCell ⟨b, t', none⟩ (.int .i64 s)).heap.size = w3.heap.size by simp] at ho5
                    have HO5 := Lib.hid (And.intro hm5 ho5)
                    have hB2 := Lib.hid (World.block_lt_of_cell? _ _ hcw1)
                    clear hu hL5 hn5 hm5 ho5
                    go_wp2_with fail
                    go_roundg (gk - 1)
                    case measure => have := HK.out; omega
                    case rel =>
                      have hk := HK.out
                      have hp := HJ.out.2.1.push HV.out.2.2.1 HS.out.2.2.2 HS.out.2.1 HS.out.2.2.1 rfl HU.out.1 (by rw [← HS.out.1]; omega)
                      have hc := cnt_set (v := v' + m) HU.out.1 (by have := HS.out.1; omega)
                      rw [← HS.out.1] at hp hc
                      refine ⟨k + 1, A5, n5, c5, o4.set t' s, l4 ++ [t'], by omega, rfl, rfl, by go_num, by rw [HU.out.2.2]; simp, Lib.hid ⟨HU.out.2.1, hp, ?_, ?_, ?_⟩⟩
                      · have h1 := HY.out.2 _ rfl
                        simp only at h1
                        have h3 := HM3.out.size
                        have hb2 := hB2.out
                        change b2 < wr.heap.size at hb2
                        refine ⟨fun q hq => ?_, fun a ha => ?_⟩
                        · obtain ⟨b3, e3, hx1, hx2⟩ := (HY.out.1.far HM3.out) q hq
                          obtain rfl : b2 = b3 := by injection e3 with e3; injection e3
                          refine ⟨b2, rfl, HO5.out.1.cell ?_ ((set_mod w3 b t' (.int .i64 s)).cell (by simpa using h1.1) hx1), HO5.out.1.cell ?_ ((set_mod w3 b t' (.int .i64 s)).cell (by simpa using h1.1) hx2)⟩
                          · simpa using h1.2
                          · simpa using h1.2
                        · obtain rfl := Option.some.inj ha
                          refine ⟨h1.1, ?_⟩
                          rcases HO5.out.2 with e | e
                          · rw [e]; exact h1.2
                          · rw [e]; intro e2; injection e2 with e2; simp only at e2; omega
                      · have := HJ.out.2.2.1; rw [List.length_append, List.length_singleton]; omega
                      · have := HJ.out.2.2.2.1; rw [List.length_append, List.length_singleton]; omega
                  · have HU := Lib.hid (And.intro hu hu1)
                    have hu1b : (u != -1) = true := by simpa using hu1
                    have hu1c : (u == -1) = false := by simpa using hu1
                    clear hu1 hu
                    by_cases hus : u = s
                    · subst hus
                      go_wp2_with fail
                      go_roundg (gk - 1)
                      case measure => have := HK.out; omega
                      case rel =>
                        have hk := HK.out
                        exact ⟨k + 1, A4, m4, c4, o4, l4, by omega, rfl, rfl, by go_num, HJ.out.2.2.2.2, Lib.hid ⟨HL3.out, HJ.out.2.1.there HV.out.2.2.1 HS.out.2.2.2 HS.out.2.1 rfl (by rw [← HS.out.1]; exact HU.out.1) (by rw [← HS.out.1]; exact hneg), ⟨HY.out.1.far HM3.out, HY.out.2⟩, HJ.out.2.2.1, HJ.out.2.2.2.1⟩⟩
                    · have husb : (u != s) = true := by simpa using hus
                      have hbad : RowKit.Hid (Bad L) := Lib.hid (HJ.out.2.1.b.bad HS.out.2.1 HS.out.2.2.1 HV.out.2.2.1 (List.mem_of_getElem? HS.out.2.2.2) (Or.inr (Or.inr (Or.inr ⟨t', u, rfl, HU.out.1, HU.out.2, by rw [← HS.out.1]; exact hus⟩))))
                      clear hus
                      go_wp2_with fail
                      try rw [Exit.noGoto_ret]
                      go_ret2
                      exact Or.inr ⟨rfl, hbad.out, HMw.out.trans (HJ.out.1.m.trans HM3.out)⟩
              · rw [decide_eq_false hin] at HX
                have hbad : RowKit.Hid (Bad L) := Lib.hid (HJ.out.2.1.b.bad HS.out.2.1 HS.out.2.2.1 HV.out.2.2.1 (List.mem_of_getElem? HS.out.2.2.2) (Or.inr (by
                  have h1 := HJ.out.2.1.b.len
                  have h2 := HN.out
                  by_cases h0 : t < 0
                  · exact Or.inl h0
                  · exact Or.inr (Or.inl (by simp only; omega)))))
                clear hin
                go_wp2_with fail
                go_region
                all_goals
                  go_wp2_with fail
                  refine (HX.out _).mono ?_
                  rintro e w3 ⟨rfl, hm3⟩
                  have HM3 := Lib.hid (HM1.out.drew.trans hm3)
                  clear hm3
                  go_wp2_with fail
                  try rw [Exit.noGoto_ret]
                  go_ret2
                  exact Or.inr ⟨rfl, hbad.out, HMw.out.trans (HJ.out.1.m.trans HM3.out)⟩
          · have hltI : ¬ (k : Int) < (nW : Int) := by omega
            have HJ := Lib.hid (And.intro hi1 (And.intro (hi2.shut HV.out.2.2.1 (by have h1 := HWW.out.1; have h2 := HWW.out.2; rw [← h1]; omega)) (And.intro hi4 (And.intro hi5 hm4))))
            clear hi1 hi2 hi3 hi4 hi5 hm4
            go_wp2_with fail
            go_roundg (2 * cnt o4 + l4.length)
            case measure => have := HJ.out.2.2.1; have := HGO.out; omega
            case rel => exact ⟨A4, m4, c4, o4, l4, rfl, rfl, HJ.out.2.2.2.2, Lib.hid ⟨HJ.out.1, ⟨i, HJ.out.2.1⟩, rfl, HJ.out.2.2.2.1⟩⟩
end Go.Proofs.YtifnkmddinoneaaGreatDoor.L10
