/- Layer 6: StackTurns's walk. Condition: the argument is a slice of cells. -/
import Derived.Test.YtjmbmhjhnoiclaaS6S
namespace Go.Proofs.Ytjmbmhjhnoiclaa
open Go.RowKit
set_option linter.unusedVariables false

/-- A stack of the cells L, new since w, and two variables: the stack, and a row that came in. -/
structure Tn (w W : World) (p bs bx : Nat) (A : Option Addr) (k cap : Nat) (L : List Int) : Prop where
  s : St W p L
  lp : w.heap.size ≤ p
  m : Mod [] w W
  cs : W.cell? ⟨bs, 0, none⟩ = some (Pt p)
  cx : W.cell? ⟨bx, 0, none⟩ = some (.slice A k cap)
  ns : bs ≠ p
  nx : bx ≠ p
theorem Tn.far {w W W' : World} {p bs bx : Nat} {A : Option Addr} {k cap : Nat} {L : List Int} (h : Tn w W p bs bx A k cap L) (m : Mod [] W W') : Tn w W' p bs bx A k cap L :=
  ⟨h.s.far m, h.lp, h.m.far m, m.cell (by simp) h.cs, m.cell (by simp) h.cx, h.ns, h.nx⟩
theorem Tn.turn {w W W' : World} {p bs bx : Nat} {A : Option Addr} {k cap : Nat} {L L' : List Int} (h : Tn w W p bs bx A k cap L) (s : St W' p L') (m : Mod [p] W W') : Tn w W' p bs bx A k cap L' :=
  ⟨s, h.lp, h.m.far1 m h.lp, m.cell (by simpa using h.ns) h.cs, m.cell (by simpa using h.nx) h.cx, h.ns, h.nx⟩
theorem Tn.doo {w W : World} {p bs bx : Nat} {A : Option Addr} {k cap : Nat} {L : List Int} (h : Tn w W p bs bx A k cap L) (op : Int) :
    Calls Try.prog 18 #[Pt p, .int .i64 op] W fun e w' => e = .returned (.int .i64 (doL op L).1) ∧ Tn w w' p bs bx A k cap (doL op L).2 := (do_calls h.s op).mono fun e w' ⟨he, a, b⟩ => ⟨he, h.turn a b⟩
theorem Tn.push {w W : World} {p bs bx : Nat} {A : Option Addr} {k cap : Nat} {L : List Int} (h : Tn w W p bs bx A k cap L) (x : Int) (hx : I64 x) :
    Calls Try.prog 20 #[Pt p, .int .i64 x] W fun e w' => e = .returned (.int .i64 (putL [x] L).1) ∧ Tn w w' p bs bx A k cap (putL [x] L).2 := (push_calls h.s x hx).mono fun e w' ⟨he, a, b⟩ => ⟨he, h.turn a b⟩
def flat (m : Nat) (ops : List Int) : List Int := (List.replicate m ops).flatten
theorem flat_succ (m : Nat) (ops : List Int) : flat (m + 1) ops = ops ++ flat m ops := by unfold flat; rw [List.replicate_succ, List.flatten_cons]
set_option maxHeartbeats 4000000 in
set_option maxRecDepth 100000 in
theorem again_op {w W : World} {p bs bx : Nat} {A : Option Addr} {len k cap : Nat} {X L0 : List Int} (h : Tn w W p bs bx A k cap L0) (C : Came w A len cap 60 X k)
    (m : Nat) (hm : m ≤ 10) (ops : List Int) {Bo : Option Addr} {co : Nat} (hs : Sl W Bo ops) (hbo : ∀ x, Bo = some x → x.block ≠ p) (hi : ∀ y ∈ ops, 0 ≤ y ∧ y ≤ 1000) (hl : ops.length ≤ 10) (n : Nat) (hn : n = ops.length) (mi : Int) (hmi : mi = (m : Int)) (h2 : runOps (flat m ops) L0 = some X) :
    Calls Try.prog 19 #[.int .i64 mi, .slice Bo n co, .pointer (some ⟨bs, 0, none⟩), .pointer (some ⟨bx, 0, none⟩)] W fun e w' => e = .returned (.bool true) ∧ Tn w w' p bs bx A k cap X := by
  subst hmi
  have D := Lib.hid C
  have HS := Lib.hid (And.intro hs hbo)
  have HI := Lib.hid hi
  have HN := Lib.hid hn
  have H2 := Lib.hid h2
  have HX := Lib.hid (show X.length ≤ 60 by rw [C.n, C.e]; exact Nat.min_le_right _ _)
  have hn10 : n ≤ 10 := by omega
  have HT := Lib.hid h
  clear C hs hi hn h2 hl h hbo
  go_enter Try.func19, Try.ntmps19
  go_wp2_with fail
  go_loopw [10] (fun i wr => ∃ (j : Nat) (L : List Int), j ≤ m ∧ i = .int .i64 (j : Int) ∧ RowKit.Hid (runOps (flat (m - j) ops) L = some X) ∧ RowKit.Hid (Tn w wr p bs bx A k cap L) ∧ RowKit.Hid (Mod [p] W wr)) (fun i _ => m - (intOf i).toNat)
  case atStart => exact ⟨0, L0, by omega, rfl, Lib.hid (by rw [Nat.sub_zero]; exact H2.out), HT, Lib.hid (Mod.refl _ _)⟩
  case round =>
    clear HT
    obtain ⟨j, L, hj, rfl, HR, HP, HM⟩ := hrel
    by_cases hlt : j < m
    · obtain ⟨mj, hmj⟩ : ∃ mj, m - j = mj + 1 := ⟨m - j - 1, by omega⟩
      have hr := HR.out
      rw [hmj, flat_succ] at hr
      have HR0 := Lib.hid hr
      have HMJ := Lib.hid hmj
      clear hr HR hmj
      go_wp2_with fail
      go_loopw [14] (fun i wr => ∃ (t : Nat) (L : List Int), t ≤ n ∧ i = .int .i64 (t : Int) ∧ RowKit.Hid (runOps (ops.drop t ++ flat mj ops) L = some X) ∧ RowKit.Hid (Tn w wr p bs bx A k cap L) ∧ RowKit.Hid (Mod [p] W wr)) (fun i _ => n - (intOf i).toNat)
      case atStart => exact ⟨0, L, by omega, rfl, Lib.hid (by rw [List.drop_zero]; exact HR0.out), HP, HM⟩
      case round =>
        clear HP HM HR0
        obtain ⟨t, L, ht, rfl, HR, HP, HM⟩ := hrel
        by_cases htn : t < n
        · have hjo : t < ops.length := by rw [← HN.out]; exact htn
          obtain ⟨b, off, hBo, hc⟩ := HS.out.1 t hjo
          subst hBo
          have hc1 := HM.out.cell (by simpa using HS.out.2 _ rfl) hc
          have hr := HR.out
          rw [drop_cons hjo, List.cons_append] at hr
          have hib := HI.out _ (List.getElem_mem hjo)
          obtain ⟨o, hoe⟩ : ∃ o, o = ops[t] := ⟨_, rfl⟩
          rw [← hoe] at hc1 hr hib
          have h1 : (0 : Int) ≤ (t : Int) := by omega
          have h2 : (t : Int) < (n : Int) := by omega
          obtain ⟨e0, hr2⟩ := runOps_do hr (by omega)
          have HR2 := Lib.hid hr2
          have E0 := Lib.hid e0
          have hcs := HP.out.cs
          clear hoe HR hc hr hib hr2 e0
          go_wp2_with fail
          refine ((do_calls HP.out.s o)).mono ?_
          rintro e w6 ⟨rfl, h6, m6⟩
          rw [E0.out]
          have HP6 := Lib.hid (HP.out.turn h6 m6)
          have HM6 := Lib.hid (HM.out.trans m6)
          clear h6 m6 HP HM hcs hc1
          go_wp2_with fail
          go_roundw
          case rel => exact ⟨t + 1, _, by omega, by go_num, HR2, HP6, HM6⟩
          case measure => simp [intOf]; omega
        · have htn2 : t = n := by omega
          subst htn2
          have hr := HR.out
          rw [HN.out, List.drop_length, List.nil_append, show mj = m - (j + 1) by have := HMJ.out; omega] at hr
          have HR2 := Lib.hid hr
          clear hr HR ht
          go_wp2_with fail
          go_roundw
          case rel => exact ⟨j + 1, _, by omega, by go_num, HR2, HP, HM⟩
          case measure => simp [intOf]; omega
    · have hjm : j = m := by omega
      subst hjm
      have hr := HR.out
      rw [Nat.sub_self] at hr
      have hLX : L = X := by injection hr
      subst hLX
      have hcs := HP.out.cs
      have hcx := HP.out.cx
      have TD := Lib.hid (HP.out.far (Mod.refl [] wr).drew)
      have hcsd := TD.out.cs
      have hcxd := TD.out.cx
      clear hr hj hlt HR
      go_wp2_with fail
      go_region_held3 (fun V => V.cell? ⟨bs, 0, none⟩ = some (Pt p) ∧ V.cell? ⟨bx, 0, none⟩ = some (.slice A k cap)) (first | exact ⟨hcs, hcx⟩ | exact ⟨hcsd, hcxd⟩ | exact ⟨hcs1, hcx1⟩ | exact ⟨hcs2, hcx2⟩ | assumption) (first
        | ((with_reducible refine (all_calls TD.out.s).mono ?_); rintro e w1 ⟨b1, c1, rfl, ho1, hl1, hm1⟩; have O1 := Lib.hid ho1; have T1 := Lib.hid (TD.out.far hm1); have hcs1 := T1.out.cs; have hcx1 := T1.out.cx; clear ho1 hl1 hm1)
        | ((with_reducible refine (same_row O1.out (D.out.s.far T1.out.m) D.out.n.symm (by have := HX.out; omega) (by have := HX.out; omega)).mono ?_); rintro e w2 ⟨rfl, m2⟩; have T2 := Lib.hid (T1.out.far m2); have hcs2 := T2.out.cs; have hcx2 := T2.out.cx; clear m2))
      go_wp2
      go_ret
      exact ⟨by simp, T2.out⟩
theorem roll_turn {X : List Int} {j : Nat} (hj : j < X.length) (h60 : X.length ≤ 60) : putL [((X.length - 1 : Nat) : Int)] (X.drop j ++ X.take j) = (0, (X.drop j ++ X.take j) ++ [((X.length - 1 : Nat) : Int)]) ∧ doL 41 ((X.drop j ++ X.take j) ++ [((X.length - 1 : Nat) : Int)]) = (0, X.drop (j + 1) ++ X.take (j + 1)) := by
  refine ⟨putL_ok (by simp; omega), ?_⟩
  have e1 : X.drop j ++ X.take j = X[j] :: (X.drop (j + 1) ++ X.take j) := by rw [List.drop_eq_getElem_cons hj]; rfl
  have e2 : (X.drop (j + 1) ++ X.take j).length = X.length - 1 := by simp; omega
  have e3 : (X.drop j ++ X.take j) ++ [((X.length - 1 : Nat) : Int)] = [] ++ X[j] :: ((X.drop (j + 1) ++ X.take j) ++ [((X.drop (j + 1) ++ X.take j).length : Int)]) := by rw [e1, e2]; rfl
  show rollL _ = _
  rw [e3, rollL_some, List.nil_append, List.append_assoc, List.take_succ_eq_append_getElem hj]
theorem again_facts {X : List Int} (h : 4 ≤ X.length) (h2 : X.length ≤ 60) (m : Nat) (ops : List Int) (hops : (flat m ops).length ≤ 20 ∧ ∀ o ∈ flat m ops, o ≠ 42)
    (e2 : ∀ a b c d, runOps (flat m ops) [a, b, c, d] = some [a, b, c, d]) : runOps (flat m ops) X = some X := by
  obtain ⟨R, a, b, c, d, rfl, hR⟩ := last4 h
  exact runOps_below R (by omega) _ _ _ (by simp; omega) hops.2 (e2 a b c d)
theorem depth_drop {X : List Int} (h2 : X.length ≤ 60) : runOps (flat 1 [42, 29]) X = some X := by
  show (if (42 : Int) < 0 then _ else if (doL 42 X).1 = 0 then runOps [29] (doL 42 X).2 else none) = _
  have e : doL 42 X = (0, X ++ [(X.length : Int)]) := by show putL _ X = _; rw [putL_ok (by simp; omega)]
  rw [e, if_neg (by decide), if_pos rfl]
  have e2 := doL_below 29 (by decide) X [(X.length : Int)] h2 (by simp) (by show (0 : Int) ≠ -4; decide)
  have e3 : doL 29 [(X.length : Int)] = (0, []) := rfl
  rw [e3] at e2
  show (if (29 : Int) < 0 then _ else if (doL 29 (X ++ [(X.length : Int)])).1 = 0 then runOps [] (doL 29 (X ++ [(X.length : Int)])).2 else none) = _
  rw [e2, if_neg (by decide), if_pos rfl]
  simp [runOps]
theorem swap2_under {X : List Int} (h : X.length < 4) : doL 38 X = (-4, X) := by
  show replL 4 [2, 3, 0, 1] X = _
  unfold replL
  rw [if_pos h]
theorem turn_1 {X : List Int} (h : 4 ≤ X.length) (h2 : X.length ≤ 60) : runOps (flat 2 [(30 : Int)]) X = some X := again_facts h h2 2 [(30 : Int)] (by decide) (fun a b c d => by kernel_rfl)
theorem turn_2 {X : List Int} (h : 4 ≤ X.length) (h2 : X.length ≤ 60) : runOps (flat 3 [(32 : Int)]) X = some X := again_facts h h2 3 [(32 : Int)] (by decide) (fun a b c d => by kernel_rfl)
theorem turn_3 {X : List Int} (h : 4 ≤ X.length) (h2 : X.length ≤ 60) : runOps (flat 2 [(38 : Int)]) X = some X := again_facts h h2 2 [(38 : Int)] (by decide) (fun a b c d => by kernel_rfl)
theorem turn_4 {X : List Int} (h : 4 ≤ X.length) (h2 : X.length ≤ 60) : runOps (flat 1 [(28 : Int), (29 : Int)]) X = some X := again_facts h h2 1 [(28 : Int), (29 : Int)] (by decide) (fun a b c d => by kernel_rfl)
theorem turn_5 {X : List Int} (h : 4 ≤ X.length) (h2 : X.length ≤ 60) : runOps (flat 1 [(31 : Int), (29 : Int)]) X = some X := again_facts h h2 1 [(31 : Int), (29 : Int)] (by decide) (fun a b c d => by kernel_rfl)
theorem turn_6 {X : List Int} (h : 4 ≤ X.length) (h2 : X.length ≤ 60) : runOps (flat 1 [(36 : Int), (37 : Int)]) X = some X := again_facts h h2 1 [(36 : Int), (37 : Int)] (by decide) (fun a b c d => by kernel_rfl)
theorem turn_7 {X : List Int} (h : 4 ≤ X.length) (h2 : X.length ≤ 60) : runOps (flat 1 [(39 : Int), (37 : Int)]) X = some X := again_facts h h2 1 [(39 : Int), (37 : Int)] (by decide) (fun a b c d => by kernel_rfl)
theorem turn_8 {X : List Int} (h : 4 ≤ X.length) (h2 : X.length ≤ 60) : runOps (flat 1 [(34 : Int), (29 : Int), (30 : Int)]) X = some X := again_facts h h2 1 [(34 : Int), (29 : Int), (30 : Int)] (by decide) (fun a b c d => by kernel_rfl)
theorem turn_9 {X : List Int} (h : 4 ≤ X.length) (h2 : X.length ≤ 60) : runOps (flat 1 [(28 : Int), (33 : Int)]) X = some X := again_facts h h2 1 [(28 : Int), (33 : Int)] (by decide) (fun a b c d => by kernel_rfl)
theorem turn_10 {X : List Int} (h : 4 ≤ X.length) (h2 : X.length ≤ 60) : runOps (flat 1 [(42 : Int), (29 : Int)]) X = some X := depth_drop h2
theorem Tn.again {w W : World} {p bs bx : Nat} {A : Option Addr} {len k cap : Nat} {X : List Int} (h : Tn w W p bs bx A k cap X) (C : Came w A len cap 60 X k) (m : Nat) (ops : List Int) (hm : m ≤ 10) (hi : ∀ y ∈ ops, 0 ≤ y ∧ y ≤ 1000) (hl : ops.length ≤ 10) (h2 : runOps (flat m ops) X = some X) (t : TypeId) (mi : Int) (hmi : mi = (m : Int)) :
    Calls Try.prog 19 #[.int .i64 mi, .slice (some ⟨W.heap.size, 0, none⟩) ops.length ops.length, .pointer (some ⟨bs, 0, none⟩), .pointer (some ⟨bx, 0, none⟩)] (W.alloc (.cells (cellsI ops).toArray t)) fun e w' => e = .returned (.bool true) ∧ Tn w w' p bs bx A k cap X :=
  again_op (h.far ((Mod.refl [] W).alloc (.cells (cellsI ops).toArray t))) C m hm ops (sl_row W ops t) (fun x hx => by injection hx with hx; subst hx; exact Nat.ne_of_gt h.s.lp) hi hl _ rfl mi hmi h2
set_option maxHeartbeats 8000000 in
set_option maxRecDepth 100000 in
theorem turns_walk (w : World) (A : Option Addr) (len cap : Nat) (zs : List Int) (R : Row .i64 w A len cap zs) :
    Calls Try.prog 5 #[.slice A len cap] w fun e w' => e = .returned (.bool true) ∧ Mod [] w w' := by
  obtain ⟨X, k, C⟩ := R.came 60
  have hm1 : (if (60 : Int) < (len : Int) then (60 : Int) else (len : Int)) = (k : Int) := by rw [C.e]; split <;> omega
  have hs1 := C.h
  have hk : k ≤ 60 := by rw [C.e]; exact Nat.min_le_right _ _
  have HX := Lib.hid (show X.length ≤ 60 by rw [C.n]; exact hk)
  have D := Lib.hid C
  clear C R
  go_enter Try.func5, Try.ntmps5
  go_wp2_with fail
  refine (shown_calls w).mono ?_
  rintro e w1 ⟨rfl, m1⟩
  have M1 := Lib.hid m1
  clear m1
  go_wp2_with fail
  obtain ⟨bx, hbx⟩ : ∃ bx, bx = w1.heap.size := ⟨_, rfl⟩
  have hcx0 : (w1.alloc (.cells #[.slice A k cap] 27)).cell? ⟨w1.heap.size, 0, none⟩ = some (.slice A k cap) := by
    have hb : (w1.alloc (.cells #[.slice A k cap] 27)).heap[w1.heap.size]? = some (.cells #[.slice A k cap] 27) := (MapKept.heap_alloc w1 _).1
    simp only [World.cell?, hb]
    rfl
  have M2 := Lib.hid (M1.out.far ((Mod.refl [] w1).alloc (.cells #[.slice A k cap] 27)))
  have hlt0 : bx < (w1.alloc (.cells #[.slice A k cap] 27)).heap.size := by rw [hbx, size_alloc']; omega
  rw [← hbx] at hcx0 ⊢
  generalize w1.alloc (.cells #[.slice A k cap] 27) = W2 at hcx0 M2 hlt0 ⊢
  have HC0 := Lib.hid (And.intro hcx0 hlt0)
  clear hbx hcx0 hlt0 M1
  refine (new_calls _).mono ?_
  rintro e w3 ⟨p, rfl, s3, m3, l3⟩
  have hT : Tn w (w3.alloc (.cells #[Pt p] 24)) p w3.heap.size bx A k cap [] := by
    have ma := (Mod.refl [] w3).alloc (.cells #[Pt p] 24)
    refine ⟨s3.far ma, Nat.le_trans M2.out.size l3, (M2.out.trans m3).far ma, ?_, (m3.far ma).cell (by simp) HC0.out.1, Nat.ne_of_gt s3.lp, ?_⟩
    · have hb : (w3.alloc (.cells #[Pt p] 24)).heap[w3.heap.size]? = some (.cells #[Pt p] 24) := (MapKept.heap_alloc w3 _).1
      simp only [World.cell?, hb]
      rfl
    · have := HC0.out.2; omega
  have HT := Lib.hid hT
  have hcs := hT.cs
  have hcx := hT.cx
  clear hT s3 m3 l3 M2 HC0
  go_wp2_with fail
  generalize w3.heap.size = bs at HT hcs hcx ⊢
  generalize w3.alloc (.cells #[Pt p] 24) = W4 at HT hcs hcx ⊢
  refine (put_calls HT.out.s cap (D.out.s.far HT.out.m) D.out.n.symm D.out.i (by have := D.out.c; have := D.out.m; omega)).mono ?_
  rintro e w5 ⟨rfl, h5, m5⟩
  rw [putL_nil X (by have := HX.out; omega)] at h5 ⊢
  have T5 := Lib.hid (HT.out.turn h5 m5)
  clear h5 m5 HT hcs hcx
  have hcs5 := T5.out.cs
  have hcx5 := T5.out.cx
  by_cases h4 : 4 ≤ k
  · have h4' : ¬ (k : Int) < 4 := by omega
    have HX4 := Lib.hid (show 4 ≤ X.length by rw [D.out.n]; exact h4)
    have HE := Lib.hid (show (k : Int) - 1 = ((X.length - 1 : Nat) : Int) by rw [D.out.n]; omega)
    have HK := Lib.hid (show X.length = k from D.out.n)
    go_wp2_with fail
    go_loopw [39] (fun i wr => ∃ j : Nat, j ≤ k ∧ i = .int .i64 (j : Int) ∧ RowKit.Hid (Tn w wr p bs bx A k cap (X.drop j ++ X.take j))) (fun i _ => k - (intOf i).toNat)
    case atStart => exact ⟨0, by omega, rfl, by rw [List.drop_zero, List.take_zero, List.append_nil]; exact T5⟩
    case round =>
      clear T5 hcs5 hcx5
      obtain ⟨j, hj, rfl, HT⟩ := hrel
      by_cases hlt : j < k
      · have rt := roll_turn (X := X) (j := j) (by rw [HK.out]; exact hlt) HX.out
        have HRT := Lib.hid rt
        have hcs := HT.out.cs
        clear rt
        go_wp2_with fail
        refine (HT.out.push ((k : Int) - 1) (by unfold I64; omega)).mono ?_
        rintro e w6 ⟨rfl, h6⟩
        rw [HE.out, HRT.out.1] at h6
        have e6 : (putL [(k : Int) - 1] (X.drop j ++ X.take j)).1 = 0 := by rw [HE.out, HRT.out.1]
        rw [e6]
        have T6 := Lib.hid h6
        have hcs6 := h6.cs
        clear h6 HT hcs e6
        go_wp2_with fail
        refine (T6.out.doo 41).mono ?_
        rintro e w7 ⟨rfl, h7⟩
        rw [HRT.out.2] at h7 ⊢
        have T7 := Lib.hid h7
        clear h7 T6 hcs6
        go_wp2_with fail
        go_roundw
        case rel => exact ⟨j + 1, by omega, by go_num, T7⟩
        case measure => simp [intOf]; omega
      · have hjk : j = k := by omega
        subst hjk
        have T8 := HT.out
        rw [← HK.out, List.drop_length, List.take_length, List.nil_append, HK.out] at T8
        have T0 := Lib.hid T8
        clear T8 HT hj hlt
        go_wp2_with fail
        refine (T0.out.again D.out 2 [(30 : Int)] (by omega) (by decide) (by decide) (turn_1 HX4.out HX.out) _ 2 rfl).mono ?_
        rintro e v1 ⟨rfl, h⟩
        have V1 := Lib.hid h
        clear h T0
        go_wp2_with fail
        refine (V1.out.again D.out 3 [(32 : Int)] (by omega) (by decide) (by decide) (turn_2 HX4.out HX.out) _ 3 rfl).mono ?_
        rintro e v2 ⟨rfl, h⟩
        have V2 := Lib.hid h
        clear h V1
        go_wp2_with fail
        refine (V2.out.again D.out 2 [(38 : Int)] (by omega) (by decide) (by decide) (turn_3 HX4.out HX.out) _ 2 rfl).mono ?_
        rintro e v3 ⟨rfl, h⟩
        have V3 := Lib.hid h
        clear h V2
        go_wp2_with fail
        refine (V3.out.again D.out 1 [(28 : Int), (29 : Int)] (by omega) (by decide) (by decide) (turn_4 HX4.out HX.out) _ 1 rfl).mono ?_
        rintro e v4 ⟨rfl, h⟩
        have V4 := Lib.hid h
        clear h V3
        go_wp2_with fail
        refine (V4.out.again D.out 1 [(31 : Int), (29 : Int)] (by omega) (by decide) (by decide) (turn_5 HX4.out HX.out) _ 1 rfl).mono ?_
        rintro e v5 ⟨rfl, h⟩
        have V5 := Lib.hid h
        clear h V4
        go_wp2_with fail
        refine (V5.out.again D.out 1 [(36 : Int), (37 : Int)] (by omega) (by decide) (by decide) (turn_6 HX4.out HX.out) _ 1 rfl).mono ?_
        rintro e v6 ⟨rfl, h⟩
        have V6 := Lib.hid h
        clear h V5
        go_wp2_with fail
        refine (V6.out.again D.out 1 [(39 : Int), (37 : Int)] (by omega) (by decide) (by decide) (turn_7 HX4.out HX.out) _ 1 rfl).mono ?_
        rintro e v7 ⟨rfl, h⟩
        have V7 := Lib.hid h
        clear h V6
        go_wp2_with fail
        refine (V7.out.again D.out 1 [(34 : Int), (29 : Int), (30 : Int)] (by omega) (by decide) (by decide) (turn_8 HX4.out HX.out) _ 1 rfl).mono ?_
        rintro e v8 ⟨rfl, h⟩
        have V8 := Lib.hid h
        clear h V7
        go_wp2_with fail
        refine (V8.out.again D.out 1 [(28 : Int), (33 : Int)] (by omega) (by decide) (by decide) (turn_9 HX4.out HX.out) _ 1 rfl).mono ?_
        rintro e v9 ⟨rfl, h⟩
        have V9 := Lib.hid h
        clear h V8
        go_wp2_with fail
        refine (V9.out.again D.out 1 [(42 : Int), (29 : Int)] (by omega) (by decide) (by decide) (turn_10 HX4.out HX.out) _ 1 rfl).mono ?_
        rintro e v10 ⟨rfl, h⟩
        have V10 := Lib.hid h
        clear h V9
        go_wp2
        go_ret
        exact ⟨rfl, V10.out.m⟩
  · have h4' : (k : Int) < 4 := by omega
    have hd := swap2_under (X := X) (by rw [D.out.n]; omega)
    have HD := Lib.hid hd
    clear hd h4
    go_wp2_with fail
    refine (T5.out.doo 38).mono ?_
    rintro e w6 ⟨rfl, h6⟩
    rw [HD.out] at h6 ⊢
    have T6 := Lib.hid h6
    clear h6 hcs5 hcx5
    go_wp2_with fail
    refine (again_op (Bo := none) (co := 0) T6.out D.out 0 (by omega) [] (Sl.nil _ _) (by simp) (by simp) (by simp) 0 rfl 0 rfl rfl).mono ?_
    rintro e w7 ⟨rfl, h7⟩
    have T7 := Lib.hid h7
    clear h7 T6
    go_wp2
    go_ret
    exact ⟨rfl, T7.out.m⟩
end Go.Proofs.Ytjmbmhjhnoiclaa
