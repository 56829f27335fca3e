/- Layer 15: an engine that is new since a world; its calls. No condition. Layer 15: the document's example. Condition: the library's tables are there (Good, L10.Good). Layer 15: a word is made another one (Set). Condition: the block is an engine (Eg); the word is a valid one. Layer 15: the numbers of those words of the table that the laws use. No condition. Layer 15: EngineDeep's walk. Condition: the argument is a byte; the listed variables hold what they hold. -/
import Derived.Test.YtifnkmddinoneaaGreatDoorChecked
import Derived.WalkKit
import Derived.WalkLawsBesides
import Derived.WalkSpells
import Derived.Lib.Hide
import Derived.Laws.OwnMore
import Derived.Laws.IdiomCopy
import Derived.Deep.RegionLaw
import Ieee.Arith
import Derived.Laws.FloatBits
import Derived.Laws.Cover2
import Derived.Laws.FloatArith
import Derived.Laws.Externs
import Derived.Laws.BitsAllLaws
import Derived.Shelf.Strings.Builder1
import Derived.Shelf.Strings.Builder2
import Derived.Shelf.Small.Bits
import Derived.Shelf.Strings.BuilderF
import Derived.Shelf.Strconv.Itoa0
import Derived.Shelf.Strconv.Itoa1
import Derived.Shelf.LaysM
import Derived.Shelf.Strconv.Itoa2
import Derived.Shelf.Strconv.Itoa3
import Derived.Shelf.Strings.Prefix
import Derived.Shelf.Bits.Mul64
import Derived.Shelf.Strings.Repeat
import Derived.Test.YtifnkmddinoneaaGreatDoorProg
import Derived.Shelf.Spec.TrailingZeros
import Derived.Lib.AppendIntMem
import Derived.Maps.RangeRun
import Derived.Carry
import Derived.Laws.EntriesVeiled
import Derived.Deep.Cut
import Derived.Deep.DeepCutAuto
import Derived.Deep.QuietTactic
import Derived.BigQuiet
import Derived.Deep.RegionHeld3
import Derived.Lib.SliceRun
import Derived.Lib.OthersKept
import Derived.Laws.IdiomStrings
import Derived.Lib.LazyBuf
import Derived.Laws.BytesArg
import Derived.Lib.AppendStr
import Derived.Lib.MinMax
import Derived.Deep.CutBlock
import Derived.Shelf.Spec.BitsCarry
import Derived.Lib.ItoaNum
import Derived.Laws.Bits64b
import Derived.Laws.Concat
import Derived.Maps.AppendAt
import Derived.Laws.MakeOwn
import Derived.Deep.LoopGhost
import Derived.Deep.CutRange
import Derived.ProofKit
import Derived.OpenShut
import Derived.Test.YtifnkmddinoneaaGreatDoorCBBN
import Derived.Test.YtifnkmddinoneaaGreatDoorCBBF
import Derived.Test.YtifnkmddinoneaaGreatDoorCDAC
import Derived.Test.YtifnkmddinoneaaGreatDoorCBBM
import Derived.Test.YtifnkmddinoneaaGreatDoorCBAN
import Derived.Test.YtifnkmddinoneaaGreatDoorCBAJ
import Derived.Test.YtifnkmddinoneaaGreatDoorCBAH
import Derived.Test.YtifnkmddinoneaaGreatDoorCBAC
import Derived.Test.YtifnkmddinoneaaGreatDoorCBAA
import Derived.Test.YtifnkmddinoneaaGreatDoorCBAB
import Derived.Test.YtifnkmddinoneaaGreatDoorCBAI
import Derived.Test.YtifnkmddinoneaaGreatDoorCBAL
import Derived.Test.YtifnkmddinoneaaGreatDoorCBAK
import Derived.Test.YtifnkmddinoneaaGreatDoorCBAM
import Derived.Test.YtifnkmddinoneaaGreatDoorCBBL
import Derived.Test.YtifnkmddinoneaaGreatDoorCBBJ
import Derived.Test.YtifnkmddinoneaaGreatDoorCBBG
import Derived.Test.YtifnkmddinoneaaGreatDoorCBAO
import Derived.Test.YtifnkmddinoneaaGreatDoorCBBI
import Derived.Test.YtifnkmddinoneaaGreatDoorCBBH
import Derived.Test.YtifnkmddinoneaaGreatDoorCBBK
import Derived.Test.YtifnkmddinoneaaGreatDoorCBAQ
import Derived.Test.YtifnkmddinoneaaGreatDoorCDAD
import Derived.Test.YtifnkmddinoneaaGreatDoorCBAE
import Derived.Test.YtifnkmddinoneaaGreatDoorCBAD
import Derived.Test.YtifnkmddinoneaaGreatDoorCBBO
import Derived.Test.YtifnkmddinoneaaGreatDoorCBBP
import Derived.Test.YtifnkmddinoneaaGreatDoorCBBQ
import Derived.Test.YtifnkmddinoneaaGreatDoorCBBR
set_option maxRecDepth 100000
namespace Go.Proofs.YtifnkmddinoneaaGreatDoor
open Go.RowKit
set_option linter.unusedVariables false
section
variable {w0 w w' : World} {A : Ag} {K : List (Nat × Option Obj)} {E E1 E2 : Es}
theorem Lw.frames (h : Lw w0 w A K E) : Calls Tryz.prog 17 #[Pt A.g] w fun e w' => e = .returned (Pt A.f) ∧ w = w' := h.quiet fun T h => gframes_calls h
theorem Lw.fdepth (h : Lw w0 w A K E) (n : Nat) (hn : E.F.length = n) : Calls Tryz.prog 22 #[Pt A.f] w fun e w' => e = .returned (.int .i64 (n : Int)) ∧ w = w' := h.quiet fun T h => h.fdepth n hn
theorem Lw.put (h : Lw w0 w A K E) {B : Option Addr} {n : Nat} (cap : Nat) {X : List Int} (hs : Sl w B X) (hn : n = X.length) (hI : ∀ x ∈ X, I64 x) (hm : n ≤ 9223372036854775807) :
    Calls Tryz.prog 16 #[Pt A.a.p, .slice B n cap] w (Lw.Did w0 A K { E with C := (putL X E.C).2 } (.int .i64 (putL X E.C).1)) := h.plays fun T h => h.sput cap hs hn hI hm
theorem Lw.fpush (h : Lw w0 w A K E) (k a b x y : Int) (ho : OkF ⟨k, a, b, x, y, []⟩) : Calls Tryz.prog 18 #[Pt A.f, .agg #[.int .i64 k, .int .i64 a, .int .i64 b, .int .i64 x, .int .i64 y, .slice none 0 0]] w (Lw.Did w0 A K (frameE ⟨k, a, b, x, y, []⟩ E).2 (.int .i64 (frameE ⟨k, a, b, x, y, []⟩ E).1)) := h.plays fun T h => h.fpush (q := ⟨k, a, b, x, y, []⟩) (L14.Lc.nil _).ls (by simp) ho
end
end Go.Proofs.YtifnkmddinoneaaGreatDoor
namespace Go.Proofs.YtifnkmddinoneaaGreatDoor
open Go.RowKit
set_option linter.unusedVariables false
theorem wd15_tab {n : Int} {x : Wd} (r : List Wd) (h1 : 1 ≤ n) (h : (builtE 180).W[(n - 1).toNat]? = some x) : WdN ((builtE 180).W ++ r) n x := ⟨h1, by
  rw [List.getElem?_append_left (List.getElem?_eq_some_iff.1 h).1]
  exact h⟩
theorem wd15_at {i : Nat} {k n u : Int} (h : (builtE 180).W[i]?.map (fun x => (x.k, x.n, x.w)) = some (k, n, u)) : (builtE 180).W[i]? = some ⟨k, n, u⟩ := by
  cases hx : (builtE 180).W[i]? with
  | none => rw [hx] at h; cases h
  | some x =>
    rw [hx] at h
    injection h with h
    obtain ⟨a, b, c⟩ := x
    injection h with h1 h
    injection h with h2 h3
    subst h1 h2 h3
    rfl
end Go.Proofs.YtifnkmddinoneaaGreatDoor
namespace Go.Proofs.YtifnkmddinoneaaGreatDoor
open Go.RowKit
set_option linter.unusedVariables false
theorem flatWs_set (L : List Wd) (k : Nat) (hk : k < L.length) (x : Wd) : flatWs (L.set k x) = (((flatWs L).set (k * 3) (.int .i64 x.k)).set (k * 3 + 1) (.int .i64 x.n)).set (k * 3 + 2) (.int .i64 x.w) := by
  have e : L = L.take k ++ L[k] :: L.drop (k + 1) := by rw [← List.drop_eq_getElem_cons hk, List.take_append_drop]
  have hl : (flatWs (L.take k)).length = k * 3 := by rw [flatWs_len, List.length_take]; congr 1; omega
  have e2 : L.set k x = L.take k ++ x :: L.drop (k + 1) := by rw [List.set_eq_take_append_cons_drop, if_pos hk]
  have f1 : flatWs L = flatWs (L.take k) ++ (.int .i64 L[k].k :: .int .i64 L[k].n :: .int .i64 L[k].w :: flatWs (L.drop (k + 1))) := by
    have h2 : flatWs L = flatWs (L.take k ++ L[k] :: L.drop (k + 1)) := by rw [← e]
    rw [h2, flatWs_app]
    rfl
  rw [e2, f1, flatWs_app]
  generalize flatWs (L.take k) = P at hl
  rw [List.set_append_right _ _ (by omega), hl, Nat.sub_self]
  rw [List.set_append_right _ _ (by omega), hl, Nat.add_sub_cancel_left]
  rw [List.set_append_right _ _ (by omega), hl, Nat.add_sub_cancel_left]
  rfl
def set3 (w : World) (b i : Nat) (x : Wd) : World := ((w.setCell ⟨b, i, none⟩ (.int .i64 x.k)).setCell ⟨b, i + 1, none⟩ (.int .i64 x.n)).setCell ⟨b, i + 2, none⟩ (.int .i64 x.w)
theorem set3_mod (w : World) (b i : Nat) (x : Wd) : Mod [b] w (set3 w b i x) := ((L14.set_mod _ _ _ _).trans (L14.set_mod _ _ _ _)).trans (L14.set_mod _ _ _ _)
theorem row_set {w : World} {v : Value} {L : List Wd} (h : w.ownsRow 0 35 3 v L.length (flatWs L)) {k : Nat} (hk : k < L.length) (x : Wd) {b : Nat} (hb : v.ownBlock = some b) : (set3 w b (k * 3) x).ownsRow 0 35 3 v (L.set k x).length (flatWs (L.set k x)) := by
  refine ⟨by rw [flatWs_len], ?_⟩
  rcases h.2 with ⟨rfl, _⟩ | ⟨g, cap, cur, rfl, h2, h3, h4, h5, h6, h7⟩
  · cases hb
  · have hb : g = b := by simpa [Value.ownBlock] using hb
    subst hb
    have s1 := heap_setCell_same w g (k * 3) _ _ (.int .i64 x.k) h3
    have s2 := heap_setCell_same _ g (k * 3 + 1) _ _ (.int .i64 x.n) s1
    have s3 := heap_setCell_same _ g (k * 3 + 2) _ _ (.int .i64 x.w) s2
    refine Or.inr ⟨g, cap, _, by rw [List.length_set], h2, s3, by rw [List.length_set]; exact h4, h5, by simpa using h6, ?_⟩
    rw [flatWs_set L k hk x, ← h7, List.length_set]
    simp [List.take_set]
section
variable {w w' : World} {A : Ag} {E : Es} {T : List Nat}
theorem Eown.setw {v : Vr} (h : Eown w A v E) {i : Nat} (hi : i < E.W.length) (x : Wd) {b : Nat} (hb : v.w.ownBlock = some b) : Eown (set3 w b (i * 3) x) A v { E with W := E.W.set i x } ∧ Mod (Ow15 A v) w (set3 w b (i * 3) x) := by
  have m := set3_mod w b (i * 3) x
  have hsep := h.sep
  unfold Ow15 Vr.bs at hsep
  have h1 := List.nodup_cons.1 hsep
  have hg : A.g ∉ [b] := fun e => h1.1 (by rw [List.mem_singleton.1 e]; exact List.mem_append.2 (Or.inr (List.mem_append.2 (Or.inr (by rw [hb]; simp)))))
  have h2 := List.nodup_append.1 h1.2
  have hp : ∀ g, v.p.ownBlock = some g → g ∉ [b] := fun g hg e => h2.2.2 g (by rw [hg]; simp) g (List.mem_append.2 (Or.inr (by rw [hb, List.mem_singleton.1 e]; simp))) rfl
  have he : ∀ g, v.e.ownBlock = some g → g ∉ [b] := fun g hg e => (List.nodup_append.1 h2.2.1).2.2 g (by rw [hg]; simp) g (by rw [hb, List.mem_singleton.1 e]; simp) rfl
  refine ⟨⟨m.cell hg h.c0, m.cell hg h.c1, m.cell hg h.c2, m.cell hg h.c3, m.cell hg h.c4, m.cell hg h.c5, m.cell hg h.c6, m.cell hg h.c7, m.cell hg h.c8, m.cell hg h.c9, m.cell hg h.c10, m.cell hg h.c11, fun j => (m.frozen (x := ⟨A.g, j, none⟩) hg h.lg).trans (h.f j), Nat.lt_of_lt_of_le h.lg m.size, L14.row_mod h.rp m hp, L14.row_mod h.re m he, row_set h.rw hi x hb, h.sep⟩, m.up fun y hy => ?_⟩
  rw [List.mem_singleton.1 hy]
  exact mem_Ow15.2 (Or.inr (Or.inr (Or.inr hb)))
set_option maxRecDepth 100000 in
set_option maxHeartbeats 4000000 in
theorem eset_calls (h : Eg w A T E) (n : Nat) (h1 : 1 ≤ n) (hn : n ≤ E.W.length) (x : Wd) (hv : Valid E x) (ho : OkW x) : Calls Tryz.prog 36 #[Pt A.g, .int .i64 (n : Int), wdV x] w (Plays A T w (.int .i64 0) { E with W := E.W.set (n - 1) x }) := by
  obtain ⟨k, m, ww⟩ := x
  have m0 := L14.al_mod w (.cells #[.int .i64 k, .int .i64 m, .int .i64 ww] TW15)
  have h0 := h.far m0
  have H1 := fun W (kk : Mod [] (w.alloc (.cells #[.int .i64 k, .int .i64 m, .int .i64 ww] TW15)) W) => valid_calls (h0.far kk) _ hv
  have H0 := fun W (kk : Mod [] w W) => isword_calls (h.far kk) (n : Int)
  unfold wdV at H1 ⊢
  dsimp only at H1 ⊢
  have H1 := Lib.hid H1
  have hw0 : (E.word (n : Int)).isSome = true := by
    unfold Es.word
    rw [if_pos (by omega), List.getElem?_eq_getElem (by omega)]; rfl
  have H0 := Lib.hid (fun W (kk : Mod [] w W) => (by have := H0 W kk; rw [hw0] at this; exact this : Calls Tryz.prog 44 #[Pt A.g, .int .i64 (n : Int)] W fun e w' => e = .returned (.bool true) ∧ W = w'))
  obtain ⟨v, Ts, Tf, Ti, hV⟩ := h0
  have c2 := hV.own.c2
  obtain ⟨B, c, hs⟩ := row_slice hV.own.rw
  have hB : ∃ b, B = some ⟨b, 0, none⟩ := by
    rcases hV.own.rw.2 with ⟨e, h9⟩ | ⟨g, cap, cur, e, _⟩
    · omega
    · rw [hs] at e
      injection e with e _ _
      exact ⟨g, e⟩
  obtain ⟨b, rfl⟩ := hB
  rw [hs] at c2
  have hob : v.w.ownBlock = some b := by rw [hs]; rfl
  obtain ⟨i, rfl⟩ : ∃ i, n = i + 1 := ⟨n - 1, by omega⟩
  have wi : wrap64 ((i : Int) + 1 - 1) = (i : Int) := by unfold wrap64; have := h.ok.wl; omega
  have hrow := row_set hV.own.rw (k := i) (by omega) ⟨k, m, ww⟩ hob
  have HH := Lib.hid (And.intro h (And.intro m0 (And.intro hV (And.intro ho (And.intro hob (And.intro hs hn))))))
  have c2f := hV.own.f 2
  obtain ⟨N, hN⟩ : ∃ N, N = E.W.length := ⟨_, rfl⟩
  rw [← hN] at c2 hn
  have hiN : (i : Int) < (N : Int) := by omega
  have hiN2 : i < N := by omega
  have hN6 : (N : Int) ≤ 600 := by have := h.ok.wl; omega
  have HN := Lib.hid hN
  have lg : A.g < (w.alloc (.cells #[.int .i64 k, .int .i64 m, .int .i64 ww] TW15)).heap.size := hV.own.lg
  have bk := (MapKept.heap_alloc w (.cells #[.int .i64 k, .int .i64 m, .int .i64 ww] TW15)).1
  obtain ⟨x0, x1, x2, _⟩ := three_at bk
  have H1b := Lib.hid fun W kk => H1.out W kk
  clear h hv ho m0 hV hs hN hw0 hrow hob H1 bk
  go_enter Tryz.func36, Tryz.ntmps36
  go_wp2_with fail
  generalize (w.alloc (.cells #[.int .i64 k, .int .i64 m, .int .i64 ww] TW15)) = wa at *
  refine (H0.out _ HH.out.2.1).mono ?_
  rintro e w1 ⟨rfl, rfl⟩
  go_wp2_with fail
  refine (H1b.out _ (Mod.refl _ _)).mono ?_
  rintro e w1 ⟨rfl, m1⟩
  have HV1 := Lib.hid (And.intro (HH.out.2.2.1.far m1) m1)
  replace c2 := m1.cell (x := ⟨A.g, 2, none⟩) (by simp) c2
  replace x0 := m1.cell (x := ⟨w.heap.size, 0, none⟩) (by simp) x0
  replace x1 := m1.cell (x := ⟨w.heap.size, 1, none⟩) (by simp) x1
  replace x2 := m1.cell (x := ⟨w.heap.size, 2, none⟩) (by simp) x2
  clear m1 H0 H1b lg c2f
  obtain ⟨y0, y1, y2, z0, z1, z2⟩ : (∃ u, w1.cell? ⟨b, i * 3, none⟩ = some u) ∧ (∃ u, w1.cell? ⟨b, i * 3 + 1, none⟩ = some u) ∧ (∃ u, w1.cell? ⟨b, i * 3 + 2, none⟩ = some u) ∧ w1.frozen? ⟨b, i * 3, none⟩ = false ∧ w1.frozen? ⟨b, i * 3 + 1, none⟩ = false ∧ w1.frozen? ⟨b, i * 3 + 2, none⟩ = false := by
    have hr := HV1.out.1.own.rw
    have hs := HH.out.2.2.2.2.2.1
    rw [hs] at hr
    have key : ∀ j, j < 3 → ∃ u, w1.cell? ⟨b, i * 3 + j, none⟩ = some u := fun j hj => by
      rw [World.ownsRow.cellAt hr (i * 3 + j) (by have := HN.out; omega)]
      exact ⟨_, List.getElem?_eq_getElem (by rw [flatWs_len]; have := HN.out; omega)⟩
    have fr : ∀ j, w1.frozen? ⟨b, j, none⟩ = false := fun j => by
      rcases hr.2 with ⟨e, _⟩ | ⟨g, cap, cur, e, _, h3, _⟩
      · cases e
      · injection e with e _ _
        injection e with e
        injection e with e _ _
        subst e
        simp [World.frozen?, h3]
    exact ⟨key 0 (by omega), key 1 (by omega), key 2 (by omega), fr _, fr _, fr _⟩
  obtain ⟨v0, y0⟩ := y0
  obtain ⟨v1, y1⟩ := y1
  obtain ⟨v2, y2⟩ := y2
  go_wp2_with fail
  go_region
  have HF := Lib.hid (show Eown ((((w1.setCell ⟨b, i * 3, none⟩ (.int .i64 k)).setCell ⟨b, i * 3 + 1, none⟩ (.int .i64 m)).setCell ⟨b, i * 3 + 2, none⟩ (.int .i64 ww)).drew) A v { E with W := E.W.set i ⟨k, m, ww⟩ } ∧ Mod (Ow15 A v) w1 ((((w1.setCell ⟨b, i * 3, none⟩ (.int .i64 k)).setCell ⟨b, i * 3 + 1, none⟩ (.int .i64 m)).setCell ⟨b, i * 3 + 2, none⟩ (.int .i64 ww)).drew) by
    obtain ⟨a1, a2⟩ := HV1.out.1.own.setw (i := i) (by have := HN.out; omega) ⟨k, m, ww⟩ HH.out.2.2.2.2.1
    exact ⟨a1.mod (Mod.refl [] _).drew (by simp), a2.far (Mod.refl [] _).drew⟩)
  generalize ((((w1.setCell ⟨b, i * 3, none⟩ (.int .i64 k)).setCell ⟨b, i * 3 + 1, none⟩ (.int .i64 m)).setCell ⟨b, i * 3 + 2, none⟩ (.int .i64 ww)).drew) = w6 at *
  clear y0 y1 y2 z0 z1 z2 x0 x1 x2 c2
  go_wp2_with fail
  go_ret
  obtain ⟨h, m0, _, ho, _⟩ := HH.out
  obtain ⟨hV, m1⟩ := HV1.out
  obtain ⟨a1, a2⟩ := HF.out
  have hok := h.ok
  obtain ⟨q1, q2⟩ := hV.owns a2 (fun x hx => Or.inl hx) a1 rfl rfl rfl rfl rfl ⟨hok.x, fun y hy => (List.mem_or_eq_of_mem_set hy).elim (hok.w y) (fun e => by rw [e]; exact ho), hok.f, hok.d, by rw [List.length_set]; exact hok.wl, hok.di⟩
  exact ⟨rfl, _, ⟨_, _, _, _, q1⟩, (Tn.far (m0.trans m1)).trans q2⟩
end
theorem Lw.set {w0 w : World} {A : Ag} {K : List (Nat × Option Obj)} {E : Es} (h : Lw w0 w A K E) (n : Nat) (h1 : 1 ≤ n) (hn : n ≤ E.W.length) (x : Wd) (hv : Valid E x) (ho : OkW x) : Calls Tryz.prog 36 #[Pt A.g, .int .i64 (n : Int), wdV x] w (Lw.Did w0 A K { E with W := E.W.set (n - 1) x } (.int .i64 0)) := h.plays fun T h => eset_calls h n h1 hn x hv ho
end Go.Proofs.YtifnkmddinoneaaGreatDoor
namespace Go.Proofs.YtifnkmddinoneaaGreatDoor
open Go.RowKit
set_option linter.unusedVariables false
def xtB (s : List UInt8) (k : Nat) : Bool := decide (k < 180) && decide (L12.tab[k]?.map (·.s) = some s) && (L12.tab.take k).all (fun x => decide (x.s ≠ s))
theorem xt_of (w : World) (s : List UInt8) (k : Nat) (h : xtB s k = true) : Calls Tryz.prog 34 #[.string (str s)] w fun e w' => e = .returned (.int .i64 ((k : Int) + 1)) ∧ Mod [] w w' := by
  unfold xtB at h
  simp only [Bool.and_eq_true, decide_eq_true_eq, List.all_eq_true] at h
  obtain ⟨⟨h1, h2⟩, h3⟩ := h
  refine xt_calls w s k h1 (fun x hx => ?_) (fun i x hi hx => ?_)
  · rw [hx] at h2
    injection h2
  · have hm : x ∈ L12.tab.take k := by
      refine List.mem_iff_getElem?.2 ⟨i, ?_⟩
      rw [List.getElem?_take, if_pos hi]
      exact hx
    exact h3 x hm
theorem xt_dup (w : World) : Calls Tryz.prog 34 #[.string ⟨#[100, 117, 112]⟩] w fun e w' => e = .returned (.int .i64 28) ∧ Mod [] w w' := xt_of w [100, 117, 112] 27 (by decide +kernel)
theorem xt_dec (w : World) : Calls Tryz.prog 34 #[.string ⟨#[49, 45]⟩] w fun e w' => e = .returned (.int .i64 5) ∧ Mod [] w w' := xt_of w [49, 45] 4 (by decide +kernel)
theorem xt_catch (w : World) : Calls Tryz.prog 34 #[.string ⟨#[99, 97, 116, 99, 104]⟩] w fun e w' => e = .returned (.int .i64 115) ∧ Mod [] w w' := xt_of w [99, 97, 116, 99, 104] 114 (by decide +kernel)
theorem tab_dup : (builtE 180).W[27]? = some ⟨1, 28, 0⟩ := wd15_at (by decide +kernel)
theorem tab_dec : (builtE 180).W[4]? = some ⟨1, 5, 0⟩ := wd15_at (by decide +kernel)
theorem tab_catch : (builtE 180).W[114]? = some ⟨2, 8, 0⟩ := wd15_at (by decide +kernel)
theorem wdeep : WDeep ((builtE 180).W ++ [⟨5, 1, 0⟩]) := ⟨wd15_tab _ (by decide) tab_dup, wd15_tab _ (by decide) tab_dec, wd15_tab _ (by decide) tab_catch, wd15_new _ _⟩
end Go.Proofs.YtifnkmddinoneaaGreatDoor
namespace Go.Proofs.YtifnkmddinoneaaGreatDoor
open Go.RowKit
set_option linter.unusedVariables false
theorem deep_ok : ∀ x ∈ dDeep, OkX x := by
  intro x hx
  simp [dDeep] at hx
  rcases hx with rfl | rfl | rfl | rfl | rfl <;> exact okX_of _ (by decide) (by decide) (by unfold I64; decide)
set_option maxRecDepth 100000 in
set_option maxHeartbeats 8000000 in
theorem deep_walk {w : World} (hg : Good w) (g10 : L10.Good w) (b0 : Int) (hb : (Lit.int .u8 b0).wf = true) :
    Calls Tryz.prog 9 #[.int .u8 b0] w fun e w' => e = .returned (.bool true) ∧ Mod [] w w' := by
  have hb8 := bounds_u8 hb
  obtain ⟨c, rfl⟩ := Int.eq_ofNat_of_zero_le hb8.1
  obtain ⟨n, hn⟩ : ∃ n, n = c % 151 := ⟨_, rfl⟩
  have hn150 : n ≤ 150 := by omega
  have hm1 : (c : Int) % 151 = (n : Int) := by omega
  have hm2 : (c : Int).tmod 151 = (n : Int) := by rw [Int.tmod_eq_emod_of_nonneg (by omega)]; exact hm1
  have hw8 : IntKind.u8.wrap (n : Int) = (n : Int) := by rw [IntKind.wrap_u8]; omega
  have hw64 : wrap64 (n : Int) = (n : Int) := by unfold wrap64; omega
  have hw65 : wrap64 ((n : Int) + 1) = (n : Int) + 1 := by unfold wrap64; omega
  have H0 := Lib.hid (shown15 w hg g10)
  have HG := Lib.hid (And.intro hg (And.intro g10 hn150))
  clear hg g10 hb hb8 hn hn150
  go_enter Tryz.func9, Tryz.ntmps9
  go_wp2_with fail
  refine (H0.out).mono ?_
  rintro e w1 ⟨rfl, m1⟩
  have H1 := Lib.hid (lw_built m1 (HG.out.1.mod m1 (by simp)))
  clear H0 m1
  go_wp2_with fail
  refine (H1.out).mono ?_
  rintro e w2 ⟨A, ⟨rfl, h2⟩, m2⟩
  have H2 : RowKit.Hid (∀ W, Mod [] w2 W → Calls Tryz.prog 13 #[Pt A.g, .agg #[.int .i64 8, .int .i64 0, .int .i64 0]] W (Lw.Did w A [] ⟨(builtE 180).W ++ [⟨8, 0, 0⟩], [], [], 0, 0, 0, [], mu0 1024, [], 0⟩ (.tuple #[.int .i64 181, .int .i64 0]))) := Lib.hid (fun W kk => by
    have h9 := (h2.far kk).add ⟨8, 0, 0⟩ (Or.inr (Or.inr (Or.inr ⟨rfl, Or.inl rfl⟩))) ⟨by decide, by decide, by unfold I64; decide, by unfold I64; decide, by decide⟩ (by rw [built_len]; omega)
    rw [built_len] at h9
    exact h9)
  clear h2 m2 H1
  go_wp2_with fail
  refine (H2.out _ (Mod.refl _ _)).mono ?_
  rintro e w3 ⟨rfl, h3⟩
  have H3 := Lib.hid h3
  have HX1 := Lib.hid (fun W => xt_dup W)
  have HX2 := Lib.hid (fun W => xt_dec W)
  clear h3 H2
  go_wp2_with fail
  refine (HX1.out _).mono ?_
  rintro e w4 ⟨rfl, m4⟩
  have M4 := Lib.hid m4
  clear m4 HX1
  go_wp2_with fail
  refine (HX2.out _).mono ?_
  rintro e w5 ⟨rfl, m5⟩
  have H4 : RowKit.Hid (∀ W, Mod [] (w5.alloc (.cells #[.int .u8 2, .int .i64 28, .int .i64 0, .int .u8 4, .int .i64 4, .int .i64 0, .int .u8 2, .int .i64 5, .int .i64 0, .int .u8 2, .int .i64 181, .int .i64 0, .int .u8 15, .int .i64 0, .int .i64 0] 61)) W → Calls Tryz.prog 12 #[Pt A.g, .agg #[.slice (some ⟨w5.heap.size, 0, none⟩) 5 5]] W (Lw.Did w A [] ⟨(builtE 180).W ++ [⟨8, 0, 0⟩], [dDeep], [], 0, 0, 0, [], mu0 1024, [], 0⟩ (.tuple #[.int .i64 1, .int .i64 0]))) :=
    Lib.hid (fun W k => (H3.out.far (M4.out.trans m5)).deflit HG.out.2.1 dDeep (by show L10.MayP dDeep (((builtE 180).W ++ [(⟨8, 0, 0⟩ : Wd)]).length : Int); rw [List.length_append, built_len]; exact may_deep) deep_ok (by show 0 < 300; omega) #[.int .u8 2, .int .i64 28, .int .i64 0, .int .u8 4, .int .i64 4, .int .i64 0, .int .u8 2, .int .i64 5, .int .i64 0, .int .u8 2, .int .i64 181, .int .i64 0, .int .u8 15, .int .i64 0, .int .i64 0] rfl 5 rfl k)
  clear m5 HX2
  go_wp2_with fail
  refine (H4.out _ (Mod.refl _ _)).mono ?_
  rintro e w6 ⟨rfl, h6⟩
  have H5 : RowKit.Hid (∀ W, Mod [] w6 W → Calls Tryz.prog 36 #[Pt A.g, .int .i64 181, .agg #[.int .i64 5, .int .i64 1, .int .i64 0]] W (Lw.Did w A [] ⟨(builtE 180).W ++ [⟨5, 1, 0⟩], [dDeep], [], 0, 0, 0, [], mu0 1024, [], 0⟩ (.int .i64 0))) := Lib.hid (fun W kk => by
    have h9 := (h6.far kk).set 181 (by omega) (by rw [List.length_append, built_len]; simp) ⟨5, 1, 0⟩ (Or.inr (Or.inl ⟨Or.inl rfl, rfl⟩)) ⟨by decide, by decide, by unfold I64; decide, by unfold I64; decide, by decide⟩
    rw [show ((builtE 180).W ++ [(⟨8, 0, 0⟩ : Wd)]).set (181 - 1) ⟨5, 1, 0⟩ = (builtE 180).W ++ [⟨5, 1, 0⟩] by rw [List.set_append_right _ _ (by rw [built_len]; omega), built_len]; rfl] at h9
    exact h9)
  clear h6 H4 H3
  go_wp2_with fail
  refine (H5.out _ (Mod.refl _ _)).mono ?_
  rintro e w7 ⟨rfl, h7⟩
  have H6 := Lib.hid h7.frames
  have H7 : RowKit.Hid (∀ W, Mod [] w7 W → Calls Tryz.prog 18 #[Pt A.f, .agg #[.int .i64 6, .int .i64 0, .int .i64 0, .int .i64 0, .int .i64 0, .slice none 0 0]] W (Lw.Did w A [] ⟨(builtE 180).W ++ [⟨5, 1, 0⟩], [dDeep], [frT], 0, 0, 0, [], mu0 1024, [], 0⟩ (.int .i64 0))) := Lib.hid (fun W kk => (h7.far kk).fpush 6 0 0 0 0 ⟨i64_0, i64_0, i64_0, i64_0, by simp⟩)
  clear h7 H5
  go_wp2_with fail
  refine (H6.out).mono ?_
  rintro e w8 ⟨rfl, rfl⟩
  go_wp2_with fail
  refine (H7.out _ (Mod.refl _ _)).mono ?_
  rintro e w8 ⟨rfl, h8⟩
  have H8 := Lib.hid fun W (kk : Mod [] w8 W) => (h8.far kk).state
  have H9 := Lib.hid fun W (kk : Mod [] w8 W) => (h8.far kk).stack
  have H10 := Lib.hid h8
  clear h8 H6 H7
  have HI := Lib.hid (show ∀ x ∈ [(n : Int), 181], I64 x by intro x hx; simp at hx; have := HG.out.2.2; rcases hx with rfl | rfl <;> (unfold I64; omega))
  have H11 : RowKit.Hid (∀ W, Mod [] (w8.alloc (.cells #[.int .i64 (n : Int), .int .i64 181] 33)) W → Calls Tryz.prog 16 #[Pt A.a.p, .slice (some ⟨w8.heap.size, 0, none⟩) 2 2] W (Lw.Did w A [] ⟨(builtE 180).W ++ [⟨5, 1, 0⟩], [dDeep], [frT], 0, 0, 0, [(n : Int), 181], mu0 1024, [], 0⟩ (.int .i64 0))) := Lib.hid (fun W kk => by
    have ma := (Mod.refl [] w8).alloc (.cells #[.int .i64 (n : Int), .int .i64 181] 33)
    exact (H10.out.far (ma.trans kk)).put 2 ((sl_row w8 [(n : Int), 181] 33).far kk) rfl HI.out (by omega))
  go_wp2_with fail
  refine (H8.out _ (Mod.refl _ _)).mono ?_
  rintro e w9 ⟨rfl, rfl⟩
  go_wp2_with fail
  refine (H9.out _ (Mod.refl _ _)).mono ?_
  rintro e w9 ⟨rfl, rfl⟩
  go_wp2_with fail
  refine (H11.out _ (Mod.refl _ _)).mono ?_
  rintro e w9 ⟨rfl, h9⟩
  have H12 := Lib.hid (fun W => xt_catch W)
  have H13 := Lib.hid h9
  clear h9 H8 H9 H10 H11
  go_wp2_with fail
  refine (H12.out _).mono ?_
  rintro e w10 ⟨rfl, m10⟩
  have H14 := Lib.hid ((H13.out.far m10).exec 115 (add_isSome (wd15_tab _ (by decide) tab_catch)))
  clear m10 H12 H13
  go_wp2_with fail
  refine (H14.out).mono ?_
  rintro e w11 ⟨rfl, h11⟩
  obtain ⟨x, y, kk, hkk, hp, hxy⟩ : ∃ x y k, k < 2000 ∧ Pth k ⟨(builtE 180).W ++ [⟨5, 1, 0⟩], [dDeep], [frT], 0, 0, 115, [(n : Int), 181], mu0 1024, [], 0⟩ ⟨(builtE 180).W ++ [⟨5, 1, 0⟩], [dDeep], [frT], 0, 0, 0, [x, y], mu0 1024, [], 0⟩ ∧ (n ≤ 124 ∧ x = 0 ∧ y = 0 ∨ 125 ≤ n ∧ y = -5) := by
    by_cases h124 : n ≤ 124
    · obtain ⟨k, h1, h2⟩ := deep_all (μ := mu0 1024) (M := 0) wdeep n h124
      exact ⟨0, 0, k, h1, h2, Or.inl ⟨h124, rfl, rfl⟩⟩
    · obtain ⟨k, x, h1, h2⟩ := deep_too (μ := mu0 1024) (M := 0) wdeep n (by omega) (by have := HG.out.2.2; omega)
      exact ⟨x, -5, k, h1, h2, Or.inr ⟨by omega, rfl⟩⟩
  have H15 := Lib.hid (Lw.run (E := ⟨(builtE 180).W ++ [⟨5, 1, 0⟩], [dDeep], [frT], 0, 0, 115, [(n : Int), 181], mu0 1024, [], 0⟩) h11 hp deep_wait (by decide) 2000 hkk (by decide))
  have HY := Lib.hid hxy
  unfold stV at H15
  dsimp only at H15
  clear h11 hp hkk hxy H14
  go_wp2_with fail
  refine (H15.out).mono ?_
  rintro e w12 ⟨rfl, h12⟩
  have HA := Lib.hid fun W (kk : Mod [] w12 W) => (h12.far kk).state
  have HB := Lib.hid fun W (kk : Mod [] w12 W) => (h12.far kk).stack
  have HC : RowKit.Hid (∀ W, Mod [] w12 W → Calls Tryz.prog 32 #[Pt A.a.p] W fun e w' => ∃ b c, e = .returned (.slice (some ⟨b, 0, none⟩) 2 c) ∧ w'.cell? ⟨b, 0, none⟩ = some (.int .i64 x) ∧ w'.cell? ⟨b, 1, none⟩ = some (.int .i64 y) ∧ RowKit.Hid (2 ≤ c) ∧ Mod [] W w') :=
    Lib.hid fun W kk => (h12.far kk).all.mono fun e w' ⟨b, c, he, ho, hb, hl, hm⟩ => ⟨b, c, he, ho.cell 0 (by show 0 < 2; omega), ho.cell 1 (by show 1 < 2; omega), Lib.hid (by obtain ⟨cur, _, _, h3, _⟩ := ho; exact h3), hm⟩
  have HM := Lib.hid h12.mod
  have HE := Lib.hid fun W (kk : Mod [] w12 W) => (h12.far kk).frames
  have HF := Lib.hid fun W (kk : Mod [] w12 W) => (h12.far kk).fdepth 1 rfl
  clear h12 H15
  have hB := (MapKept.heap_alloc w12 (.cells #[.int .i64 3, .int .i64 6, .int .i64 0] TS15)).1
  have mB := L14.al_mod w12 (.cells #[.int .i64 3, .int .i64 6, .int .i64 0] TS15)
  obtain ⟨y0, _, _, _⟩ := three_at hB
  have MB := Lib.hid mB
  go_wp2_with fail
  generalize (w12.alloc (.cells #[.int .i64 3, .int .i64 6, .int .i64 0] TS15)) = wb at *
  clear hB mB
  refine (HA.out _ MB.out).mono ?_
  rintro e w13 ⟨rfl, rfl⟩
  go_wp2_with fail
  refine (HB.out _ MB.out).mono ?_
  rintro e w13 ⟨rfl, rfl⟩
  go_wp2_with fail
  refine (HC.out _ MB.out).mono ?_
  rintro e w13 ⟨b8, c8, rfl, g0, g1, _, m8⟩
  replace y0 := m8.cell (x := ⟨w12.heap.size, 0, none⟩) (by simp) y0
  have M8 := Lib.hid (And.intro (MB.out.trans m8) (HM.out.trans (MB.out.trans m8)))
  clear m8 HA HB HC
  go_wp2_with fail
  refine (HE.out _ M8.out.1).mono ?_
  rintro e w14 ⟨rfl, rfl⟩
  go_wp2_with fail
  refine (HF.out _ M8.out.1).mono ?_
  rintro e w14 ⟨rfl, rfl⟩
  rcases HY.out with ⟨h1, rfl, rfl⟩ | ⟨h1, rfl⟩
  · have h125 : ¬ (125 : Int) < (n : Int) + 1 := by omega
    clear h1
    go_wp2_with fail
    go_ret
    exact ⟨rfl, M8.out.2⟩
  · have h125 : (125 : Int) < (n : Int) + 1 := by omega
    clear h1
    go_wp2_with fail
    go_ret
    exact ⟨rfl, M8.out.2⟩
end Go.Proofs.YtifnkmddinoneaaGreatDoor
