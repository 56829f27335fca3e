/- Layer 12: All of package table. No condition. Layer 12: facts of the table; words of parts are done at once, and only compiled (TableOnly). Condition: numbers of their kinds. Layer 12: the document's rows of names. No condition. Layer 12: the document's now, only and All. No condition. Layer 12: the document's All. No condition. -/
import Derived.Test.YtifnkmddinoneaaGreatDoorCBBC
import Derived.Test.YtifnkmddinoneaaGreatDoorCBBB
import Derived.Great.BuildSlice
set_option maxRecDepth 100000
namespace Go.Proofs.YtifnkmddinoneaaGreatDoor.L12
open Go.RowKit
set_option linter.unusedVariables false

theorem names_len (k : Int) : (namesK k).length ≤ 107 := by unfold namesK; repeat' split
                                                            all_goals decide
theorem now_len (k : Int) : (nowK k).length ≤ 107 := by unfold nowK; repeat' split
                                                        all_goals decide
theorem only_len (k : Int) : (onlyK k).length ≤ 107 := by unfold onlyK; repeat' split
                                                          all_goals decide
theorem built_en {w : World} {lo : Nat} {g : Value} {k : Int} (h : Gp w lo g k (namesK k) (nowK k) (onlyK k)) (i : Nat) (hi : i < (namesK k).length) :
    Calls Tryz.prog 228 #[g, .int .i64 (i : Int)] w fun e w' => e = .returned (buV (entK k i (namesK k)[i])) ∧ Mod [] w w' := by
  have h1 := names_len k
  have h2 := now_len k
  have h3 := only_len k
  refine (built_calls h (by omega) (by omega) (by omega) i hi).mono fun e w' ⟨he, hm⟩ => ⟨?_, hm⟩
  rw [he]
  unfold buV entK
  simp
def upK : Nat → List En
  | 0 => []
  | n + 1 => upK n ++ tabK ((n : Int) + 1)
theorem upK_all : upK 4 = tab := by unfold tab; simp only [upK, List.nil_append, List.append_assoc]; rfl
theorem upK_len : ∀ n, (upK n).length ≤ n * 107
  | 0 => by simp [upK]
  | n + 1 => by
    have := upK_len n
    have h2 := names_len ((n : Int) + 1)
    simp only [upK, List.length_append, tabK, tabF_len]
    omega
theorem out_cells {w w1 : World} {lo p : Nat} {x0 x1 x2 x3 : Value} (h : Bx4 w p x0 x1 x2 x3) (hp : lo ≤ p) (k : Kept lo w w1) : Bx4 w1 p x0 x1 x2 x3 :=
  ⟨k.cell hp h.c0, k.cell hp h.c1, k.cell hp h.c2, k.cell hp h.c3, fun i => by rw [k.frozen hp h.lt]; exact h.f i, Nat.lt_of_lt_of_le h.lt k.size⟩
set_option maxRecDepth 100000 in
set_option maxHeartbeats 4000000 in
theorem all_calls (w : World) : Calls Tryz.prog 81 #[] w fun e w' => ∃ v, e = .returned v ∧ Er w' w.heap.size v tab ∧ Mod [] w w' := by
  go_enter Tryz.func81, Tryz.ntmps81
  go_wp2_with fail
  go_loopw [1, 2] (fun v y wr => ∃ kk : Nat, y = .int .i64 ((kk : Int) + 1) ∧ kk ≤ 4 ∧ RowKit.Hid (Er wr w.heap.size v (upK kk) ∧ Mod [] w wr)) (fun _ y _ => 6 - (intOf y).toNat)
  case atStart => exact ⟨0, rfl, by omega, Lib.hid ⟨Er.nil _ _, Mod.refl _ _⟩⟩
  case round =>
    obtain ⟨kk, rfl, hk4, hi⟩ := hrel
    obtain ⟨wo, hwo⟩ : ∃ wo, wo = wr := ⟨_, rfl⟩
    subst hwo
    obtain ⟨hE, hM⟩ := hi.out
    clear hi
    by_cases hlt : kk < 4
    · have hkI : (kk : Int) + 1 ≤ 4 := by omega
      have HE := Lib.hid hE
      have HM := Lib.hid hM
      have G1 := Lib.hid (group_calls wo ((kk : Int) + 1))
      have hup := upK_len kk
      obtain ⟨k, hk⟩ : ∃ k, k = (kk : Int) + 1 := ⟨_, rfl⟩
      have HK := Lib.hid hk
      rw [← hk] at G1 hkI ⊢
      have hwk : wrap64 (k + 1) = k + 1 := IntWalk.wrap64_in _ (by omega)
      clear hE hM hk
      go_wp2_with fail
      refine (G1.out).mono ?_
      rintro e w1 ⟨g, rfl, hg, m1⟩
      have HG0 := Lib.hid hg
      obtain ⟨A1, c1, A2, c2, A3, c3, rfl, _⟩ := hg
      have b4 := Bx4.new w1 (.int .i64 k) (.slice A1 (namesK k).length c1) (.slice A2 (nowK k).length c2) (.slice A3 (onlyK k).length c3) 211
      have m2 : Mod [] w1 (w1.alloc (.cells #[.int .i64 k, .slice A1 (namesK k).length c1, .slice A2 (nowK k).length c2, .slice A3 (onlyK k).length c3] 211)) := (Mod.refl [] w1).alloc _
      have hnl := names_len k
      obtain ⟨n1, hn1⟩ : ∃ n, n = (namesK k).length := ⟨_, rfl⟩
      obtain ⟨n2, hn2⟩ : ∃ n, n = (nowK k).length := ⟨_, rfl⟩
      obtain ⟨n3, hn3⟩ : ∃ n, n = (onlyK k).length := ⟨_, rfl⟩
      rw [← hn1, ← hn2, ← hn3] at b4 m2 HG0
      rw [← hn1, ← hn2, ← hn3]
      have HN1 := Lib.hid hn1
      rw [← hn1] at hnl
      have B4 := Lib.hid b4
      have M2 := Lib.hid m2
      have M1 := Lib.hid m1
      have p1 := b4.c1
      clear hn1 hn2 hn3 b4 m1 m2
      go_upto_region 6 with fail
      generalize w1.alloc (.cells #[.int .i64 k, .slice A1 n1 c1, .slice A2 n2 c2, .slice A3 n3 c3] 211) = w2 at *
      obtain ⟨p, hp⟩ : ∃ p, p = w1.heap.size := ⟨_, rfl⟩
      rw [← hp] at B4 p1 ⊢
      have HP := Lib.hid (show wo.heap.size ≤ p by rw [hp]; exact M1.out.size)
      clear hp
      go_wp2_with fail
      go_loopw [1, 14] (fun v y wi => ∃ j : Nat, y = .int .i64 (j : Int) ∧ j ≤ n1 ∧ RowKit.Hid (Er wi w.heap.size v (upK kk ++ tabF k 0 ((namesK k).take j)) ∧ Kept wo.heap.size w2 wi ∧ Mod [] w wi ∧ ∀ b, v.ownBlock = some b → b < wo.heap.size ∨ w2.heap.size ≤ b)) (fun _ y _ => n1 - (intOf y).toNat)
      case atStart =>
        have hM2 := M1.out.trans M2.out
        refine ⟨0, rfl, by omega, Lib.hid ⟨?_, Kept.refl _ _, HM.out.trans hM2, fun b hb => Or.inl ?_⟩⟩
        · have := HE.out.far hM2
          simpa [tabF] using this
        · rcases HE.out.2 with ⟨e, _⟩ | ⟨g', cap, cur, e, _, h3, _⟩
          · rw [e] at hb; cases hb
          · rw [e] at hb
            have : g' = b := by simpa [Value.ownBlock] using hb
            rw [← this]
            exact (Array.getElem?_eq_some_iff.1 h3).1
      case round =>
        clear p1
        obtain ⟨j, rfl, hjn, hi⟩ := hrel
        by_cases hjl : j < n1
        · have hjI : (j : Int) < (n1 : Int) := by omega
          have hjN : j < (namesK k).length := by rw [← HN1.out]; exact hjl
          obtain ⟨h1, h2, h3, h4⟩ := hi.out
          have GG : Gp w2 wo.heap.size (.agg #[.int .i64 k, .slice A1 n1 c1, .slice A2 n2 c2, .slice A3 n3 c3]) k (namesK k) (nowK k) (onlyK k) := HG0.out.far M2.out
          have K1 := built_en (GG.kept h2) j hjN
          have q := out_cells B4.out HP.out h2
          obtain ⟨p0, p1, p2, p3, _, _⟩ := q
          obtain ⟨c, hc⟩ : ∃ c, c = entK k j (namesK k)[j] := ⟨_, rfl⟩
          rw [← hc] at K1
          have HC := Lib.hid hc
          have HI := Lib.hid (And.intro h1 (And.intro h2 (And.intro h3 h4)))
          have KK := Lib.hid K1
          clear K1 hc h1 h2 h3 h4 hi GG
          go_wp2_with fail
          refine (KK.out).mono ?_
          rintro e w3 ⟨rfl, m3⟩
          obtain ⟨e1, e2, e3, e4⟩ := HI.out
          have M3 := Lib.hid m3
          have X1 := Lib.hid ((e1.far m3).far ((Mod.refl [] w3).alloc (.cells #[.string (str c.s), .int .i64 c.k, .int .i64 (c.n : Int), .bool c.now, .bool c.only] 79)))
          have X2 := Lib.hid ((e2.far m3).far ((Mod.refl [] w3).alloc (.cells #[.string (str c.s), .int .i64 c.k, .int .i64 (c.n : Int), .bool c.now, .bool c.only] 79)))
          have X3 := Lib.hid ((e3.trans m3).trans ((Mod.refl [] w3).alloc (.cells #[.string (str c.s), .int .i64 c.k, .int .i64 (c.n : Int), .bool c.now, .bool c.only] 79)))
          have X4 := Lib.hid e4
          have XC := Lib.hid (en_new w3 c 79)
          have XL := Lib.hid (show (upK kk ++ tabF k 0 ((namesK k).take j)).length ≤ 1000000 by rw [List.length_append, tabF_len, List.length_take]; omega)
          clear m3 e1 e2 e3 e4 p0 p1 p2 p3
          unfold buV
          go_wp2_with (refine wpList_appE rfl (.tmp 17) (.tmp 21) rfl X1.out X3.out.size XL.out _ 1 c XC.out rfl rfl ?_)
          intro v' w' b1 b2 b3
          have R1 := Lib.hid b1
          have R2 := Lib.hid (X2.out.mod b2 fun x hx => X4.out x (by simpa using hx))
          have R3 := Lib.hid (X3.out.then b2 fun x hx => Or.inr (X1.out.own x (by simpa using hx)))
          have R4 := Lib.hid (show ∀ b, v'.ownBlock = some b → b < wo.heap.size ∨ w2.heap.size ≤ b from fun b hb => b3.elim (fun e => X4.out b (by rw [← e]; exact hb)) fun e => by
            have hb2 := Option.some.inj (e.symm.trans hb)
            rw [← hb2]
            have := X2.out.size
            rw [size_allocT] at this
            exact Or.inr this)
          clear b1 b2 b3
          go_wp2_with fail
          go_roundw
          case rel => exact ⟨j + 1, by go_num, by omega, Lib.hid ⟨by rw [tabF_take k _ j hjN, ← HC.out]; exact R1.out, R2.out, R3.out, R4.out⟩⟩
          case measure => simp [intOf]; omega
        · have hjI : ¬ (j : Int) < (n1 : Int) := by omega
          have hj : j = (namesK k).length := by have := HN1.out; omega
          have hi2 := hi.out
          rw [hj, List.take_of_length_le (Nat.le_refl _)] at hi2
          have HI := Lib.hid hi2
          clear hi hi2 hj
          go_wp2_with fail
          go_roundw
          case rel => exact ⟨kk + 1, by rw [hwk, HK.out]; rfl, by omega, Lib.hid ⟨by have := HI.out.1; unfold upK; unfold tabK; rw [← HK.out]; exact this, HI.out.2.2.1⟩⟩
          case measure => have := HK.out; simp [intOf]; omega
    · have hkI : ¬ (kk : Int) + 1 ≤ 4 := by omega
      have e4 : kk = 4 := by omega
      subst e4
      rw [upK_all] at hE
      have HE := Lib.hid hE
      have HM := Lib.hid hM
      clear hE hM
      go_wp2_with fail
      go_ret
      exact ⟨_, rfl, HE.out, HM.out⟩
end Go.Proofs.YtifnkmddinoneaaGreatDoor.L12
namespace Go.Proofs.YtifnkmddinoneaaGreatDoor.L12
open Go.RowKit Go.ChangeShapes Go.WideShapes
set_option linter.unusedVariables false

theorem tab_len : tab.length = 180 := by decide +kernel
def cntK (k : Int) (j : Nat) : Nat := ((tab.take j).filter fun x => decide (x.k = k)).length
theorem cntK_step (k : Int) (j : Nat) (h : j < tab.length) : cntK k (j + 1) = cntK k j + if tab[j].k = k then 1 else 0 := by
  unfold cntK
  rw [List.take_succ_eq_append_getElem h, List.filter_append, List.length_append]
  by_cases e : tab[j].k = k <;> simp [e]
theorem cntK_le (k : Int) (j : Nat) : cntK k j ≤ j := by
  unfold cntK
  have h1 := List.length_filter_le (fun x : En => decide (x.k = k)) (tab.take j)
  have h2 : (tab.take j).length ≤ j := by rw [List.length_take]; omega
  omega
theorem cnt_1 : cntK 1 180 = 107 := by decide +kernel
theorem cnt_2 : cntK 2 180 = 9 := by decide +kernel
theorem cnt_3 : cntK 3 180 = 17 := by decide +kernel
theorem cnt_4 : cntK 4 180 = 47 := by decide +kernel
end Go.Proofs.YtifnkmddinoneaaGreatDoor.L12
namespace Go.Proofs.YtifnkmddinoneaaGreatDoor.L12
open Go.RowKit
set_option linter.unusedVariables false

def strCells (N : List (List UInt8)) : Array Value := (N.map fun s => Value.string (str s)).toArray
theorem lit_tx (w : World) (N : List (List UInt8)) : TxAt (w.alloc (.cells (strCells N) 9)) (some ⟨w.heap.size, 0, none⟩) (N.map str) := fun i hi => by
  have hi2 : i < N.length := by simpa using hi
  refine ⟨_, _, rfl, ?_⟩
  rw [Nat.zero_add, World.cell?_alloc_new]
  simp [strCells, hi2]
def NmP (w : World) (N : List (List UInt8)) (e : Ending) (w' : World) : Prop := ∃ A c, e = .returned (.slice A N.length c) ∧ TxAt w' A (N.map str) ∧ Mod [] w w' ∧ ∀ a, A = some a → w.heap.size ≤ a.block
theorem nm_end (w : World) (N : List (List UInt8)) (n : Nat) (hn : n = N.length) : NmP w N (.returned (.slice (some ⟨w.heap.size, 0, none⟩) n n)) (w.alloc (.cells (strCells N) 9)) := by
  subst hn
  exact ⟨_, _, rfl, lit_tx w N, (Mod.refl [] w).alloc _, fun a h => by injection h with h; rw [← h]; exact Nat.le_refl _⟩
theorem info_str12 : ∃ ie z, Tryz.prog.info? 9 = some ie ∧ ie.zero = some z ∧ ie.size = 1 ∧ z = .string ⟨#[]⟩ := by
  obtain ⟨i, hi, hz0, hz1, hz2⟩ := info_parts Tryz.infoStr
  exact ⟨i, _, hi, hz0, hz1, rfl⟩
theorem wpList_texts {ops : Array Oper} {rest : List Oper} {o : Oper} {a : Act} {w : World} {Q : Exit → Act → World → Prop} (hg : o.guard = none) (len : Nat) (parts : Array (Nat × Operand)) (ho : o.op = .buildSlice 126 len parts)
    (N : List (List UInt8)) (hpos : ¬ len = 0) (hlen : len ≤ 1000)
    (hf : Instr.fill (fun i => some (i * 1, 1)) ((Array.range (len * 1)).map ((Value.string ⟨#[]⟩).cells[· % (Value.string ⟨#[]⟩).cells.size]!)) (parts.map fun (i, x) => (i, a.eval x)).toList = some (strCells N))
    (h : wpList Tryz.prog ops Q rest (a.put o.dst (.slice (some ⟨w.heap.size, 0, none⟩) len len)) (w.alloc (.cells (strCells N) 9))) : wpList Tryz.prog ops Q (o :: rest) a w := by
  obtain ⟨ie, z, h1, h2, h3, rfl⟩ := info_str12
  exact wpList_buildSlice hg 126 9 len parts ho (strCells N) ie _ Tryz.underlying126 h1 h2 (by rw [h3]; omega) (by rw [h3]; omega) (by rw [h3]; exact hf) h
set_option maxRecDepth 100000 in
set_option maxHeartbeats 4000000 in
theorem names_prim (w : World) : Calls Tryz.prog 60 #[.int .i64 1] w (NmP w primN) := by
  go_enter Tryz.func60, Tryz.ntmps60
  go_upto_region 3 with fail
  go_wp2_with (refine wpList_texts rfl 107 _ rfl primN (by decide) (by decide) (by kernel_rfl) ?_)
  go_ret
  exact nm_end w primN 107 rfl
set_option maxRecDepth 100000 in
set_option maxHeartbeats 4000000 in
theorem names_ctl (w : World) : Calls Tryz.prog 60 #[.int .i64 2] w (NmP w ctlN) := by
  go_enter Tryz.func60, Tryz.ntmps60
  go_upto_region 5 with fail
  go_wp2_with (refine wpList_texts rfl 9 _ rfl ctlN (by decide) (by decide) (by kernel_rfl) ?_)
  go_ret
  exact nm_end w ctlN 9 rfl
set_option maxRecDepth 100000 in
set_option maxHeartbeats 4000000 in
theorem names_flow (w : World) : Calls Tryz.prog 60 #[.int .i64 3] w (NmP w flowN) := by
  go_enter Tryz.func60, Tryz.ntmps60
  go_upto_region 7 with fail
  go_wp2_with (refine wpList_texts rfl 17 _ rfl flowN (by decide) (by decide) (by kernel_rfl) ?_)
  go_ret
  exact nm_end w flowN 17 rfl
set_option maxRecDepth 100000 in
set_option maxHeartbeats 4000000 in
theorem names_host (w : World) : Calls Tryz.prog 60 #[.int .i64 4] w (NmP w hostN) := by
  go_enter Tryz.func60, Tryz.ntmps60
  go_upto_region 9 with fail
  go_wp2_with (refine wpList_texts rfl 47 _ rfl hostN (by decide) (by decide) (by kernel_rfl) ?_)
  go_ret
  exact nm_end w hostN 47 rfl
set_option maxHeartbeats 4000000 in
theorem names_none (w : World) (k : Int) (h1 : k ≠ 1) (h2 : k ≠ 2) (h3 : k ≠ 3) (h4 : k ≠ 4) : Calls Tryz.prog 60 #[.int .i64 k] w (NmP w []) := by
  have k1 : (k == 1) = false := by rw [beq_eq_false_iff_ne]; exact h1
  have k2 : (k == 2) = false := by rw [beq_eq_false_iff_ne]; exact h2
  have k3 : (k == 3) = false := by rw [beq_eq_false_iff_ne]; exact h3
  have k4 : (k == 4) = false := by rw [beq_eq_false_iff_ne]; exact h4
  clear h1 h2 h3 h4
  go_enter Tryz.func60, Tryz.ntmps60
  go_wp2_with fail
  go_ret
  exact ⟨none, _, rfl, tx_none w, Mod.refl [] w, fun a h => by cases h⟩
theorem rnames_calls (w : World) (k : Int) : Calls Tryz.prog 60 #[.int .i64 k] w (NmP w (namesK k)) := by
  by_cases h1 : k = 1
  · subst h1; exact names_prim w
  by_cases h2 : k = 2
  · subst h2; exact names_ctl w
  by_cases h3 : k = 3
  · subst h3; exact names_flow w
  by_cases h4 : k = 4
  · subst h4; exact names_host w
  have := names_none w k h1 h2 h3 h4
  unfold namesK
  rw [if_neg h1, if_neg h2, if_neg h3, if_neg h4]
  exact this
end Go.Proofs.YtifnkmddinoneaaGreatDoor.L12
namespace Go.Proofs.YtifnkmddinoneaaGreatDoor.L12
open Go.RowKit
set_option linter.unusedVariables false

def nowNs : List Int := [3, 4, 5, 6, 8, 10, 12, 15, 19, 21, 23, 24, 25, 26, 27, 28, 34]
def onlyNs : List Int := [3, 4, 5, 8, 10, 12, 15, 23, 34, 44, 45, 46, 47]
set_option maxHeartbeats 4000000 in
theorem rnow_calls (n : Int) (w : World) : Calls Tryz.prog 61 #[.int .i64 n] w fun e w' => e = .returned (.bool (decide (n ∈ nowNs))) ∧ w' = w := by
  by_cases h : n ∈ nowNs
  · rw [decide_eq_true h]
    simp only [nowNs, List.mem_cons, List.not_mem_nil, or_false] at h
    rcases h with rfl | rfl | rfl | rfl | rfl | rfl | rfl | rfl | rfl | rfl | rfl | rfl | rfl | rfl | rfl | rfl | rfl
    all_goals
      go_enter Tryz.func61, Tryz.ntmps61
      go_wp2_with fail
      go_ret
      exact ⟨rfl, rfl⟩
  · rw [decide_eq_false h]
    simp only [nowNs, List.mem_cons, List.not_mem_nil, or_false, not_or] at h
    obtain ⟨h3, h4, h5, h6, h8, h10, h12, h15, h19, h21, h23, h24, h25, h26, h27, h28, h34⟩ := h
    have e3 : (n == 3) = false := by rw [beq_eq_false_iff_ne]; exact h3
    have e4 : (n == 4) = false := by rw [beq_eq_false_iff_ne]; exact h4
    have e5 : (n == 5) = false := by rw [beq_eq_false_iff_ne]; exact h5
    have e6 : (n == 6) = false := by rw [beq_eq_false_iff_ne]; exact h6
    have e8 : (n == 8) = false := by rw [beq_eq_false_iff_ne]; exact h8
    have e10 : (n == 10) = false := by rw [beq_eq_false_iff_ne]; exact h10
    have e12 : (n == 12) = false := by rw [beq_eq_false_iff_ne]; exact h12
    have e15 : (n == 15) = false := by rw [beq_eq_false_iff_ne]; exact h15
    have e19 : (n == 19) = false := by rw [beq_eq_false_iff_ne]; exact h19
    have e21 : (n == 21) = false := by rw [beq_eq_false_iff_ne]; exact h21
    have e23 : (n == 23) = false := by rw [beq_eq_false_iff_ne]; exact h23
    have e24 : (n == 24) = false := by rw [beq_eq_false_iff_ne]; exact h24
    have e25 : (n == 25) = false := by rw [beq_eq_false_iff_ne]; exact h25
    have e26 : (n == 26) = false := by rw [beq_eq_false_iff_ne]; exact h26
    have e27 : (n == 27) = false := by rw [beq_eq_false_iff_ne]; exact h27
    have e28 : (n == 28) = false := by rw [beq_eq_false_iff_ne]; exact h28
    have e34 : (n == 34) = false := by rw [beq_eq_false_iff_ne]; exact h34
    clear h3 h4 h5 h6 h8 h10 h12 h15 h19 h21 h23 h24 h25 h26 h27 h28 h34
    go_enter Tryz.func61, Tryz.ntmps61
    go_wp2_with fail
    go_ret
    exact ⟨rfl, rfl⟩
set_option maxHeartbeats 4000000 in
theorem ronly_calls (n : Int) (w : World) : Calls Tryz.prog 62 #[.int .i64 n] w fun e w' => e = .returned (.bool (decide (n ∈ onlyNs))) ∧ w' = w := by
  by_cases h : n ∈ onlyNs
  · rw [decide_eq_true h]
    simp only [onlyNs, List.mem_cons, List.not_mem_nil, or_false] at h
    rcases h with rfl | rfl | rfl | rfl | rfl | rfl | rfl | rfl | rfl | rfl | rfl | rfl | rfl
    all_goals
      go_enter Tryz.func62, Tryz.ntmps62
      go_wp2_with fail
      go_ret
      exact ⟨rfl, rfl⟩
  · rw [decide_eq_false h]
    simp only [onlyNs, List.mem_cons, List.not_mem_nil, or_false, not_or] at h
    obtain ⟨h3, h4, h5, h8, h10, h12, h15, h23, h34, h44, h45, h46, h47⟩ := h
    have e3 : (n == 3) = false := by rw [beq_eq_false_iff_ne]; exact h3
    have e4 : (n == 4) = false := by rw [beq_eq_false_iff_ne]; exact h4
    have e5 : (n == 5) = false := by rw [beq_eq_false_iff_ne]; exact h5
    have e8 : (n == 8) = false := by rw [beq_eq_false_iff_ne]; exact h8
    have e10 : (n == 10) = false := by rw [beq_eq_false_iff_ne]; exact h10
    have e12 : (n == 12) = false := by rw [beq_eq_false_iff_ne]; exact h12
    have e15 : (n == 15) = false := by rw [beq_eq_false_iff_ne]; exact h15
    have e23 : (n == 23) = false := by rw [beq_eq_false_iff_ne]; exact h23
    have e34 : (n == 34) = false := by rw [beq_eq_false_iff_ne]; exact h34
    have e44 : (n == 44) = false := by rw [beq_eq_false_iff_ne]; exact h44
    have e45 : (n == 45) = false := by rw [beq_eq_false_iff_ne]; exact h45
    have e46 : (n == 46) = false := by rw [beq_eq_false_iff_ne]; exact h46
    have e47 : (n == 47) = false := by rw [beq_eq_false_iff_ne]; exact h47
    clear h3 h4 h5 h8 h10 h12 h15 h23 h34 h44 h45 h46 h47
    go_enter Tryz.func62, Tryz.ntmps62
    go_wp2_with fail
    go_ret
    exact ⟨rfl, rfl⟩
def rNow (k : Int) (j : Nat) : Bool := if k = 3 then true else if k = 4 then decide (((j : Int) + 1) ∈ nowNs) else false
def rOnly (k : Int) (j : Nat) : Bool := if k = 3 then true else if k = 2 then decide ((j : Int) < 6) else if k = 4 then decide (((j : Int) + 1) ∈ onlyNs) else false
theorem ent_ctl : ∀ j : Fin 9, decide ((namesK 2)[j.val]'(by have := j.isLt; have e : (namesK 2).length = 9 := (by decide); omega) ∈ ctlON) = decide ((j.val : Int) < 6) := by decide +kernel
theorem ent_flow : ∀ j : Fin 17, decide ((namesK 3)[j.val]'(by have := j.isLt; have e : (namesK 3).length = 17 := (by decide); omega) ∈ flowN) = true := by decide +kernel
theorem ent_hostW : ∀ j : Fin 47, decide ((namesK 4)[j.val]'(by have := j.isLt; have e : (namesK 4).length = 47 := (by decide); omega) ∈ hostWN) = decide (((j.val : Int) + 1) ∈ nowNs) := by decide +kernel
theorem ent_hostO : ∀ j : Fin 47, decide ((namesK 4)[j.val]'(by have := j.isLt; have e : (namesK 4).length = 47 := (by decide); omega) ∈ hostON) = decide (((j.val : Int) + 1) ∈ onlyNs) := by decide +kernel
theorem ent_is {k : Int} (hk : 1 ≤ k ∧ k ≤ 4) (j : Nat) (h : j < (namesK k).length) : entK k j (namesK k)[j] = ⟨(namesK k)[j], k, j + 1, rNow k j, rOnly k j⟩ := by
  rcases (by omega : k = 1 ∨ k = 2 ∨ k = 3 ∨ k = 4) with rfl | rfl | rfl | rfl
  · simp [entK, nowK, onlyK, rNow, rOnly]
  · have := ent_ctl ⟨j, h⟩
    simp only [entK, En.mk.injEq, true_and]
    exact ⟨by simp [nowK, rNow], by simpa [onlyK, rOnly] using this⟩
  · have := ent_flow ⟨j, h⟩
    simp only [entK, En.mk.injEq, true_and]
    exact ⟨by simpa [nowK, rNow] using this, by simpa [onlyK, rOnly] using this⟩
  · have h1 := ent_hostW ⟨j, h⟩
    have h2 := ent_hostO ⟨j, h⟩
    simp only [entK, En.mk.injEq, true_and]
    exact ⟨by simpa [nowK, rNow] using h1, by simpa [onlyK, rOnly] using h2⟩
end Go.Proofs.YtifnkmddinoneaaGreatDoor.L12
namespace Go.Proofs.YtifnkmddinoneaaGreatDoor.L12
open Go.RowKit
set_option linter.unusedVariables false

theorem Bx5.set {w : World} {q : Nat} {x0 x1 x2 x3 x4 : Value} (h : Bx5 w q x0 x1 x2 x3 x4) (v : Value) : Bx5 (w.setCell ⟨q, 3, none⟩ v) q x0 x1 x2 v x4 ∧ Bx5 (w.setCell ⟨q, 4, none⟩ v) q x0 x1 x2 x3 v := by
  have hs : ∀ i, (w.setCell ⟨q, i, none⟩ v).heap.size = w.heap.size := fun i => by simp [World.setCell]
  have o : ∀ i j, i ≠ j → (w.setCell ⟨q, i, none⟩ v).cell? ⟨q, j, none⟩ = w.cell? ⟨q, j, none⟩ := fun i j hij => World.cell?_setCell_other _ _ _ _ (by first | (simp; done) | (simp; omega))
  refine ⟨⟨?_, ?_, ?_, ?_, ?_, fun i => (World.frozen?_setCell _ _ _ _).trans (h.f i), by rw [hs]; exact h.lt⟩, ⟨?_, ?_, ?_, ?_, ?_, fun i => (World.frozen?_setCell _ _ _ _).trans (h.f i), by rw [hs]; exact h.lt⟩⟩
  · rw [o 3 0 (by decide)]; exact h.c0
  · rw [o 3 1 (by decide)]; exact h.c1
  · rw [o 3 2 (by decide)]; exact h.c2
  · exact World.cell?_setCell_same _ _ _ (h := h.c3)
  · rw [o 3 4 (by decide)]; exact h.c4
  · rw [o 4 0 (by decide)]; exact h.c0
  · rw [o 4 1 (by decide)]; exact h.c1
  · rw [o 4 2 (by decide)]; exact h.c2
  · rw [o 4 3 (by decide)]; exact h.c3
  · exact World.cell?_setCell_same _ _ _ (h := h.c4)
set_option maxRecDepth 100000 in
set_option maxHeartbeats 8000000 in
theorem rall_calls (w : World) : Calls Tryz.prog 38 #[] w fun e w' => ∃ v, e = .returned v ∧ Er w' w.heap.size v tab ∧ Mod [] w w' := by
  have N1 := Lib.hid (fun (n : Int) (W : World) => rnow_calls n W)
  have N2 := Lib.hid (fun (n : Int) (W : World) => ronly_calls n W)
  go_enter Tryz.func38, Tryz.ntmps38
  go_wp2_with fail
  go_loopw [1, 2] (fun v y wr => ∃ kk : Nat, y = .int .i64 ((kk : Int) + 1) ∧ kk ≤ 4 ∧ RowKit.Hid (Er wr w.heap.size v (upK kk) ∧ Mod [] w wr)) (fun _ y _ => 6 - (intOf y).toNat)
  case atStart => exact ⟨0, rfl, by omega, Lib.hid ⟨Er.nil _ _, Mod.refl _ _⟩⟩
  case round =>
    obtain ⟨kk, rfl, hk4, hi⟩ := hrel
    obtain ⟨wo, hwo⟩ : ∃ wo, wo = wr := ⟨_, rfl⟩
    subst hwo
    obtain ⟨hE, hM⟩ := hi.out
    clear hi
    by_cases hlt : kk < 4
    · have hkI : (kk : Int) + 1 ≤ 4 := by omega
      have HE := Lib.hid hE
      have HM := Lib.hid hM
      have G1 := Lib.hid (rnames_calls wo ((kk : Int) + 1))
      have hup := upK_len kk
      obtain ⟨k, hk⟩ : ∃ k, k = (kk : Int) + 1 := ⟨_, rfl⟩
      have HK := Lib.hid hk
      rw [← hk] at G1 hkI ⊢
      have hk1 : 1 ≤ k := by omega
      have hwk : wrap64 (k + 1) = k + 1 := IntWalk.wrap64_in _ (by omega)
      clear hE hM hk
      go_wp2_with fail
      refine (G1.out).mono ?_
      rintro e w2 ⟨A1, c1, rfl, t1, m1, l1⟩
      have hnl := names_len k
      obtain ⟨n1, hn1⟩ : ∃ n, n = (namesK k).length := ⟨_, rfl⟩
      rw [← hn1]
      have HN1 := Lib.hid hn1
      rw [← hn1] at hnl
      have M1 := Lib.hid m1
      have T1 := Lib.hid t1
      have L1 := Lib.hid l1
      clear hn1 m1 t1 l1
      go_wp2_with fail
      go_loopw [1, 4] (fun v y wi => ∃ j : Nat, y = .int .i64 (j : Int) ∧ j ≤ n1 ∧ RowKit.Hid (Er wi w.heap.size v (upK kk ++ tabF k 0 ((namesK k).take j)) ∧ Kept wo.heap.size w2 wi ∧ Mod [] w wi ∧ ∀ b, v.ownBlock = some b → b < wo.heap.size ∨ w2.heap.size ≤ b)) (fun _ y _ => n1 - (intOf y).toNat)
      case atStart =>
        refine ⟨0, rfl, by omega, Lib.hid ⟨?_, Kept.refl _ _, HM.out.trans M1.out, fun b hb => Or.inl ?_⟩⟩
        · have := HE.out.far M1.out
          simpa [tabF] using this
        · rcases HE.out.2 with ⟨e, _⟩ | ⟨g', cap, cur, e, _, h3, _⟩
          · rw [e] at hb; cases hb
          · rw [e] at hb
            have : g' = b := by simpa [Value.ownBlock] using hb
            rw [← this]
            exact (Array.getElem?_eq_some_iff.1 h3).1
      case round =>
        obtain ⟨j, rfl, hjn, hi⟩ := hrel
        by_cases hjl : j < n1
        · have hjI : (j : Int) < (n1 : Int) := by omega
          have hjN : j < (namesK k).length := by rw [← HN1.out]; exact hjl
          obtain ⟨h1, h2, h3, h4⟩ := hi.out
          obtain ⟨b, o, hA, hc⟩ := tx_get (T1.out.kept h2 L1.out) j hjN
          have hA1 := hA
          subst hA
          have hent := ent_is ⟨hk1, hkI⟩ j hjN
          obtain ⟨s, hs⟩ : ∃ s, s = (namesK k)[j] := ⟨_, rfl⟩
          rw [← hs] at hc hent
          obtain ⟨c, hcc⟩ : ∃ c, c = entK k j s := ⟨_, rfl⟩
          have HC := Lib.hid (And.intro hcc (And.intro hs (hcc.trans hent)))
          obtain ⟨S, hS⟩ : ∃ S, S = str s := ⟨_, rfl⟩
          have HS := Lib.hid hS
          rw [← hS] at hc
          have b5 := Bx5.new wr (.string S) (.int .i64 k) (.int .i64 ((j : Int) + 1)) (.bool false) (.bool false) 79
          have m5 : Mod [] wr (wr.alloc (.cells #[.string S, .int .i64 k, .int .i64 ((j : Int) + 1), .bool false, .bool false] 79)) := (Mod.refl [] wr).alloc _
          have HI := Lib.hid (And.intro h1 (And.intro h2 (And.intro h3 h4)))
          have hwj : wrap64 ((j : Int) + 1) = (j : Int) + 1 := IntWalk.wrap64_in _ (by omega)
          clear h1 h2 h3 h4 hi hcc hent hs hS
          go_upto_region 10 with fail
          generalize wr.alloc (.cells #[.string S, .int .i64 k, .int .i64 ((j : Int) + 1), .bool false, .bool false] 79) = W1 at *
          obtain ⟨q, hq⟩ : ∃ q, q = wr.heap.size := ⟨_, rfl⟩
          rw [← hq] at b5 ⊢
          have HQ := Lib.hid (show wr.heap.size ≤ q from Nat.le_of_eq hq.symm)
          have b6 := (b5.set (.bool (rNow k j))).1
          have b7 := (b6.set (.bool (rOnly k j))).2
          have m7 := m5.far1 (((Mod.refl [q] W1).set (x := ⟨q, 3, none⟩) (Or.inl (by simp)) (.bool (rNow k j))).set (x := ⟨q, 4, none⟩) (Or.inl (by simp)) (.bool (rOnly k j))) HQ.out
          obtain ⟨r3, hr3⟩ : ∃ r, r = rNow k j := ⟨_, rfl⟩
          obtain ⟨r4, hr4⟩ : ∃ r, r = rOnly k j := ⟨_, rfl⟩
          rw [← hr3] at b6
          rw [← hr3, ← hr4] at b7 m7
          have B6 := Lib.hid b6
          have B7 := Lib.hid b7
          have M7 := Lib.hid m7
          have HR := Lib.hid (And.intro hr3 hr4)
          obtain ⟨q0, q1, q2, q3, q4, qf, _⟩ := b5
          have qf3 := qf 3
          clear hq b6 b7 m7 m5 qf hc hr3 hr4
          go_upto_region 10 with fail
          go_cut [26] (fun _ wx => wx = W1.setCell ⟨q, 3, none⟩ (.bool r3))
          case first =>
            by_cases k3 : k = 3
            · subst k3
              go_wp2_with fail
              go_meet
              rw [HR.out.1]
              rfl
            · have e3 : (k == 3) = false := by rw [beq_eq_false_iff_ne]; exact k3
              by_cases k4 : k = 4
              · subst k4
                go_wp2_with fail
                refine (N1.out _ _).mono ?_
                rintro e w5 ⟨rfl, rfl⟩
                go_wp2_with fail
                go_meet
                rw [HR.out.1]
                rfl
              · have e4 : (k == 4) = false := by rw [beq_eq_false_iff_ne]; exact k4
                have e5 := HR.out.1
                unfold rNow at e5
                rw [if_neg k3, if_neg k4] at e5
                clear k3 k4
                go_wp2_with fail
                go_meet
                rw [e5]
          case rest =>
            subst hcut
            clear q0 q1 q2 q3 q4 qf3
            obtain ⟨q0, q1, q2, q3, q4, qf, _⟩ := B6.out
            have qf4 := qf 4
            clear qf
            generalize W1.setCell ⟨q, 3, none⟩ (.bool r3) = W2 at *
            go_upto_region 11 with fail
            go_cut [38] (fun _ wx => wx = W2.setCell ⟨q, 4, none⟩ (.bool r4))
            case first =>
              by_cases k3 : k = 3
              · subst k3
                go_wp2_with fail
                go_meet
                rw [HR.out.2]
                rfl
              · have e3 : (k == 3) = false := by rw [beq_eq_false_iff_ne]; exact k3
                by_cases k2 : k = 2
                · subst k2
                  have e5 := HR.out.2
                  unfold rOnly at e5
                  rw [if_neg (by decide), if_pos rfl] at e5
                  by_cases j6 : (j : Int) < 6
                  · rw [decide_eq_true j6] at e5
                    have d6 : decide ((j : Int) < 6) = true := decide_eq_true j6
                    go_wp2_with fail
                    go_meet
                    rw [e5]
                  · rw [decide_eq_false j6] at e5
                    have d6 : decide ((j : Int) < 6) = false := decide_eq_false j6
                    go_wp2_with fail
                    go_meet
                    rw [e5]
                · have e2 : (k == 2) = false := by rw [beq_eq_false_iff_ne]; exact k2
                  by_cases k4 : k = 4
                  · subst k4
                    go_wp2_with fail
                    refine (N2.out _ _).mono ?_
                    rintro e w5 ⟨rfl, rfl⟩
                    go_wp2_with fail
                    go_meet
                    rw [HR.out.2]
                    rfl
                  · have e4 : (k == 4) = false := by rw [beq_eq_false_iff_ne]; exact k4
                    have e5 := HR.out.2
                    unfold rOnly at e5
                    rw [if_neg k3, if_neg k2, if_neg k4] at e5
                    clear k3 k4 k2
                    go_wp2_with fail
                    go_meet
                    rw [e5]
            case rest =>
              subst hcut
              clear q0 q1 q2 q3 q4 qf4
              obtain ⟨q0, q1, q2, q3, q4, _, _⟩ := B7.out
              generalize W2.setCell ⟨q, 4, none⟩ (.bool r4) = W3 at *
              obtain ⟨e1, e2, e3, e4⟩ := HI.out
              have m8 := M7.out
              have hcv : c = ⟨s, k, j + 1, r3, r4⟩ := by rw [HC.out.2.2, ← HR.out.1, ← HR.out.2]
              have hm : Mod [] W3 (W3.alloc (.cells #[.string S, .int .i64 k, .int .i64 ((j : Int) + 1), .bool r3, .bool r4] 79)) := (Mod.refl [] W3).alloc _
              have X1 := Lib.hid ((e1.far m8).far hm)
              have X2 := Lib.hid ((e2.far m8).far hm)
              have X3 := Lib.hid ((e3.trans m8).trans hm)
              have X4 := Lib.hid e4
              have XC := Lib.hid (show ∀ i u, (enV c)[i]? = some u → (W3.alloc (.cells #[.string S, .int .i64 k, .int .i64 ((j : Int) + 1), .bool r3, .bool r4] 79)).cell? ((⟨W3.heap.size, 0, none⟩ : Addr).add i) = some u from by
                have := en_new W3 c 79
                rw [hcv] at this ⊢
                rw [HS.out]
                exact this)
              have XL := Lib.hid (show (upK kk ++ tabF k 0 ((namesK k).take j)).length ≤ 1000000 by rw [List.length_append, tabF_len, List.length_take]; omega)
              clear e1 e2 e3 e4 m8 hcv hm
              go_wp2_with (refine wpList_appE rfl (.tmp 58) (.tmp 60) rfl X1.out X3.out.size XL.out _ 1 c XC.out rfl rfl ?_)
              intro v' w' b1 b2 b3
              have R1 := Lib.hid b1
              have R2 := Lib.hid (X2.out.mod b2 fun x hx => X4.out x (by simpa using hx))
              have R3 := Lib.hid (X3.out.then b2 fun x hx => Or.inr (X1.out.own x (by simpa using hx)))
              have R4 := Lib.hid (show ∀ b, v'.ownBlock = some b → b < wo.heap.size ∨ w2.heap.size ≤ b from fun b hb => b3.elim (fun e => X4.out b (by rw [← e]; exact hb)) fun e => by
                have hb2 := Option.some.inj (e.symm.trans hb)
                rw [← hb2]
                have := X2.out.size
                rw [size_allocT] at this
                exact Or.inr this)
              clear b1 b2 b3
              go_wp2_with fail
              go_roundw
              case rel => exact ⟨j + 1, by go_num, by omega, Lib.hid ⟨by rw [tabF_take k _ j hjN, ← HC.out.2.1, ← HC.out.1]; exact R1.out, R2.out, R3.out, R4.out⟩⟩
              case measure => simp [intOf]; omega
        · have hjI : ¬ (j : Int) < (n1 : Int) := by omega
          have hj : j = (namesK k).length := by have := HN1.out; omega
          have hi2 := hi.out
          rw [hj, List.take_of_length_le (Nat.le_refl _)] at hi2
          have HI := Lib.hid hi2
          clear hi hi2 hj
          go_wp2_with fail
          go_roundw
          case rel => exact ⟨kk + 1, by rw [HK.out]; rfl, by omega, Lib.hid ⟨by have := HI.out.1; unfold upK; unfold tabK; rw [← HK.out]; exact this, HI.out.2.2.1⟩⟩
          case measure => have := HK.out; simp [intOf]; omega
    · have hkI : ¬ (kk : Int) + 1 ≤ 4 := by omega
      have e4 : kk = 4 := by omega
      subst e4
      rw [upK_all] at hE
      have HE := Lib.hid hE
      have HM := Lib.hid hM
      clear hE hM
      go_wp2_with fail
      go_ret
      exact ⟨_, rfl, HE.out, HM.out⟩
end Go.Proofs.YtifnkmddinoneaaGreatDoor.L12
