/- Layer 8 (package source): how many sources there are, the last one, what is told of it. Condition: the block is an input (Inp). Layer 8 (package source): a text that is being read, where it lies. Condition: texts of at most 2^62 bytes. Layer 8 (package source): what is told of an input, and what is read of its last source. Condition: the block is an input (Inp). Layer 8 (package source): what is told of the last source, and what is read of it. Condition: the block is an input that has sources (Inp). Layer 8 (package source): inputs begin; sources are opened, closed, cut. Condition: the block is an input (Inp). Layer 8 (package source): sources are closed and cut off. Condition: the block is an input (Inp). -/
import Derived.Deep.Cut
import Derived.Deep.DeepCutAuto
import Derived.Deep.QuietTactic
import Derived.BigQuiet
import Derived.Deep.RegionHeld3
import Derived.Test.YtifnkmddinoneaaGreatDoorCBAO
import Derived.Lib.SliceRun
import Derived.Maps.AppendAt
set_option maxRecDepth 100000
namespace Go.Proofs.YtifnkmddinoneaaGreatDoor.L8
open Go.RowKit
set_option linter.unusedVariables false
set_option maxRecDepth 100000
theorem depthV_calls {w : World} {p : Nat} {v : Value} {L : List Sc} {M : Nat} (h : InpV w p v L M) : Calls Tryz.prog 33 #[Pt p] w fun e w' => e = .returned (.int .i64 (L.length : Int)) ∧ w = w' := by
  obtain ⟨A, cap, rfl⟩ := h.opened
  have h0 := h.c0
  clear h
  go_enter Tryz.func33, Tryz.ntmps33
  go_wp2
  go_ret
  exact ⟨rfl, rfl⟩
theorem depth_calls {w : World} {p : Nat} {S : List Nat} {L : List Sc} {M : Nat} (h : Inp w p S L M) : Calls Tryz.prog 33 #[Pt p] w fun e w' => e = .returned (.int .i64 (L.length : Int)) ∧ w = w' := by
  obtain ⟨v, h, _⟩ := h
  exact depthV_calls h
structure Bare (w : World) (b : Nat) : Prop where
  c0 : w.cell? ⟨b, 0, none⟩ = some (.string (str []))
  c1 : w.cell? ⟨b, 1, none⟩ = some (.int .i64 0)
  c2 : w.cell? ⟨b, 2, none⟩ = some (.int .i64 0)
  f : ∀ i, w.frozen? ⟨b, i, none⟩ = false
  lt : b < w.heap.size
theorem Bare.new (w : World) : Bare (w.alloc (.cells #[.string (str []), .int .i64 0, .int .i64 0] 116)) w.heap.size := by
  have hb := (MapKept.heap_alloc w (.cells #[.string (str []), .int .i64 0, .int .i64 0] 116)).1
  refine ⟨?_, ?_, ?_, fun i => ?_, ?_⟩
  · simp only [World.cell?, hb]; rfl
  · simp only [World.cell?, hb]; rfl
  · simp only [World.cell?, hb]; rfl
  · simp only [World.frozen?, hb]; rfl
  · show _ < (w.heap.push _).size; simp
theorem last_bare (v : Value) (w : World) (hd : Calls Tryz.prog 33 #[v] w fun e w' => e = .returned (.int .i64 0) ∧ w = w') :
    Calls Tryz.prog 53 #[v] w fun e w' => e = .returned (Pt w.heap.size) ∧ Bare w' w.heap.size ∧ Mod [] w w' := by
  have H := Lib.hid hd
  clear hd
  go_enter Tryz.func53, Tryz.ntmps53
  go_wp2_with fail
  refine (H.out).mono ?_
  rintro e w1 ⟨rfl, rfl⟩
  go_wp2_with fail
  go_ret
  exact ⟨rfl, Bare.new w, (Mod.refl [] w).alloc _⟩
theorem last_calls {w : World} {p g cap n : Nat} {B : List Sc} {x : Sc} {M : Nat} (h : InpV w p (.slice (some ⟨g, 0, none⟩) n cap) (B ++ [x]) M) :
    Calls Tryz.prog 53 #[Pt p] w fun e w' => e = .returned (.pointer (some ⟨g, B.length * 3, none⟩)) ∧ w = w' := by
  have H := Lib.hid (depthV_calls h)
  obtain ⟨g', cap', e, _⟩ := h.top
  injection e with e1 e2 e3
  subst e2
  have hl : (B ++ [x]).length = B.length + 1 := by simp
  have h0 := h.c0
  have hd := h.dep
  rw [hl] at H hd
  obtain ⟨k, hk⟩ : ∃ k, k = B.length := ⟨_, rfl⟩
  rw [← hk] at H h0 hd ⊢
  clear h e1 e3 hl hk
  go_enter Tryz.func53, Tryz.ntmps53
  go_wp2_with fail
  refine (H.out).mono ?_
  rintro e w1 ⟨rfl, rfl⟩
  go_wp2_with fail
  go_ret
  exact ⟨by simp, rfl⟩
end Go.Proofs.YtifnkmddinoneaaGreatDoor.L8
namespace Go.Proofs.YtifnkmddinoneaaGreatDoor.L8
open Go.RowKit
set_option linter.unusedVariables false
set_option maxRecDepth 100000

/-- What lies at place o of block b: a text, and the place at which it is read. -/
structure Rd (w : World) (b o : Nat) (T : List UInt8) (i : Nat) : Prop where
  c0 : w.cell? ⟨b, o, none⟩ = some (.string (str T))
  c1 : w.cell? ⟨b, o + 1, none⟩ = some (.int .i64 (i : Int))
  f : w.frozen? ⟨b, o + 1, none⟩ = false
theorem Rd.far {w w' : World} {b o : Nat} {T : List UInt8} {i : Nat} (h : Rd w b o T i) (k : Mod [] w w') : Rd w' b o T i :=
  ⟨k.cell (by simp) h.c0, k.cell (by simp) h.c1, (k.frozen (by simp) (World.block_lt_of_cell? w _ h.c1)).trans h.f⟩
def Reads (b o : Nat) (w : World) (v : Value) (j : Nat) (e : Ending) (w' : World) : Prop := e = .returned v ∧ ∃ w1, Mod [] w w1 ∧ w' = w1.setCell ⟨b, o + 1, none⟩ (.int .i64 (j : Int))
def Been (b o : Nat) (w : World) (j : Nat) (wx : World) : Prop := ∃ w1, Mod [] w w1 ∧ wx = w1.setCell ⟨b, o + 1, none⟩ (.int .i64 (j : Int))
set_option maxHeartbeats 2000000 in
theorem rd_word {w : World} {b o : Nat} {T : List UInt8} {i : Nat} (h : Rd w b o T i) (hl : T.length ≤ 4611686018427387904) :
    Calls Tryz.prog 54 #[.pointer (some ⟨b, o, none⟩)] w (Reads b o w (.string (str (wordL T i).1)) (wordL T i).2) := by
  have H := Lib.hid (fun W => word_calls T hl (i : Int) W)
  have h0 := h.c0
  have h1 := h.c1
  have hf := h.f
  have hm : Mod [] w w.drew := (Mod.refl [] w).drew
  have HR := Lib.hid h
  obtain ⟨S, hS⟩ : ∃ S, S = str T := ⟨_, rfl⟩
  obtain ⟨s1, hs1⟩ : ∃ s, s = str (wordL T i).1 := ⟨_, rfl⟩
  obtain ⟨j, hj⟩ : ∃ j, j = (wordL T i).2 := ⟨_, rfl⟩
  rw [← hS] at H h0
  rw [← hs1, ← hj] at H ⊢
  have HS := Lib.hid hS
  clear hS hs1 hj h
  unfold Reads
  go_enter Tryz.func54, Tryz.ntmps54
  go_wp2_with fail
  go_cut [2] (fun u wx => u = .string s1 ∧ Been b o w j wx)
  · go_region_with (first | (go_at_call 106; refine (H.out _).mono ?_; rintro e w1 ⟨rfl, hx⟩; have R1 := (HR.out.far hm).far hx; have k1 := R1.c1; have kf := R1.f; have hx1 := hm.trans hx; clear hx) | fail)
    all_goals
      go_wp2_with fail
      go_meet
      exact ⟨rfl, w1, hx1, rfl⟩
  · obtain ⟨rfl, hb⟩ := hcut
    have HB := Lib.hid hb
    clear hb h0 h1 hf
    go_wp2_with fail
    go_ret
    exact ⟨rfl, HB.out⟩
theorem rd_seek {w : World} {b o : Nat} {T : List UInt8} {i : Nat} (h : Rd w b o T i) (n : Int) (hl : T.length ≤ 4611686018427387904) (hn : I64 n) :
    Calls Tryz.prog 304 #[.pointer (some ⟨b, o, none⟩), .int .i64 n] w fun e w' => e = .returned (.tuple #[]) ∧ w' = w.setCell ⟨b, o + 1, none⟩ (.int .i64 ((heldN T.length n : Nat) : Int)) := by
  have h0 := h.c0
  have h1 := h.c1
  have hf := h.f
  have e : ((heldN T.length n : Nat) : Int) = min (max n 0) (T.length : Int) := by unfold heldN; omega
  rw [e, ← str_size T]
  obtain ⟨S, hS⟩ : ∃ S, S = str T := ⟨_, rfl⟩
  rw [← hS] at h0 ⊢
  clear h hS e
  go_enter Tryz.func304, Tryz.ntmps304
  go_wp2
  all_goals exact bodyPost_end (v := .tuple #[]) (results_none rfl _ _ _) rfl ⟨rfl, by congr 2; omega⟩
end Go.Proofs.YtifnkmddinoneaaGreatDoor.L8
namespace Go.Proofs.YtifnkmddinoneaaGreatDoor.L8
open Go.RowKit
set_option linter.unusedVariables false
set_option maxRecDepth 100000

/-- v is an input without sources, or none at all. -/
def Nothing (v : Value) (w : World) : Prop := ∀ W, Mod [] w W → Calls Tryz.prog 33 #[v] W fun e w' => e = .returned (.int .i64 0) ∧ W = w'
theorem Nothing.of {w : World} {p : Nat} {S : List Nat} {M : Nat} (h : Inp w p S [] M) : Nothing (Pt p) w := fun W m => by simpa using depth_calls (h.far m)
theorem Bare.rd {w : World} {b : Nat} (h : Bare w b) : Rd w b 0 [] 0 := ⟨h.c0, h.c1, h.f 1⟩
def Plays (p : Nat) (S : List Nat) (v : Value) (L : List Sc) (M : Nat) (w : World) (e : Ending) (w' : World) : Prop := e = .returned v ∧ ∃ S', Inp w' p S' L M ∧ Turn S S' w w'
def Tells (v : Value) (w : World) (e : Ending) (w' : World) : Prop := e = .returned v ∧ Mod [] w w'
theorem in_bare {v : Value} {w : World} (h : Nothing v w) : Calls Tryz.prog 30 #[v] w (Tells (.int .i64 0) w) := by
  have H := Lib.hid (last_bare v w (h w (Mod.refl [] w)))
  clear h
  unfold Tells
  go_enter Tryz.func30, Tryz.ntmps30
  go_wp2_with fail
  refine (H.out).mono ?_
  rintro e w1 ⟨rfl, hb, hm⟩
  have h0 := hb.c1
  have HM := Lib.hid hm
  clear hb hm
  go_wp2_with fail
  go_ret
  exact ⟨rfl, HM.out⟩
theorem seek_bare {v : Value} {w : World} (h : Nothing v w) (n : Int) (hn : I64 n) : Calls Tryz.prog 256 #[v, .int .i64 n] w (Tells (.tuple #[]) w) := by
  have H := Lib.hid (last_bare v w (h w (Mod.refl [] w)))
  clear h
  unfold Tells
  go_enter Tryz.func256, Tryz.ntmps256
  go_wp2_with fail
  refine (H.out).mono ?_
  rintro e w1 ⟨rfl, hb, hm⟩
  have K := Lib.hid (rd_seek hb.rd n (by simp) hn)
  have HM := Lib.hid hm
  clear hb hm
  go_wp2_with fail
  refine (K.out).mono ?_
  rintro e w2 ⟨rfl, rfl⟩
  go_wp2_with fail
  exact bodyPost_end (v := .tuple #[]) (results_none rfl _ _ _) rfl ⟨rfl, HM.out.set (x := ⟨w.heap.size, 0 + 1, none⟩) (Or.inr (Nat.le_refl _)) _⟩
end Go.Proofs.YtifnkmddinoneaaGreatDoor.L8
namespace Go.Proofs.YtifnkmddinoneaaGreatDoor.L8
open Go.RowKit
set_option linter.unusedVariables false
set_option maxRecDepth 100000

/-- The last source of an input, where it lies, with all that the walks want. -/
structure Top (w : World) (p : Nat) (S : List Nat) (B : List Sc) (x : Sc) (M g : Nat) : Prop where
  last : Calls Tryz.prog 53 #[Pt p] w fun e w' => e = .returned (.pointer (some ⟨g, B.length * 3, none⟩)) ∧ w = w'
  rd : Rd w g (B.length * 3) x.t x.i
  c2 : w.cell? ⟨g, B.length * 3 + 2, none⟩ = some (.int .i64 (x.n : Int))
  tl : x.t.length ≤ 1000
  il : x.i ≤ x.t.length
  set : ∀ j, j ≤ x.t.length → ∀ w1, Mod [] w w1 → Inp (w1.setCell ⟨g, B.length * 3 + 1, none⟩ (.int .i64 (j : Int))) p S (B ++ [{ x with i := j }]) M ∧ Turn S S w (w1.setCell ⟨g, B.length * 3 + 1, none⟩ (.int .i64 (j : Int)))
theorem Inp.top {w : World} {p : Nat} {S : List Nat} {B : List Sc} {x : Sc} {M : Nat} (h : Inp w p S (B ++ [x]) M) : ∃ g, Top w p S B x M g := by
  obtain ⟨v, h, rfl⟩ := h
  obtain ⟨g, cap, rfl, hgp, hg, h0, h1, h2, hf⟩ := h.top
  refine ⟨g, last_calls h, ⟨h0, h1, hf _⟩, h2, (h.ok x (by simp)).2, (h.ok x (by simp)).1, fun j hj w1 hm => ?_⟩
  have k := h.mod hm (by simp)
  have k2 := k.set j hj
  refine ⟨⟨_, k2.1, rfl⟩, Turn.of ?_⟩
  exact hm.up (T := p :: (Value.slice (some ⟨g, 0, none⟩) (B.length + 1) cap).ownBlock.toList) (by simp) |>.trans (k2.2.up (by simp [Value.ownBlock]))
theorem word_top {w : World} {p : Nat} {S : List Nat} {B : List Sc} {x : Sc} {M : Nat} (h : Inp w p S (B ++ [x]) M) :
    Calls Tryz.prog 29 #[Pt p] w (Plays p S (.string (str (wordL x.t x.i).1)) (B ++ [{ x with i := (wordL x.t x.i).2 }]) M w) := by
  obtain ⟨g, k⟩ := h.top
  have H := Lib.hid k.last
  have htl := k.tl
  have K := Lib.hid (rd_word k.rd (by omega))
  have E := Lib.hid (k.set (wordL x.t x.i).2 (upN_le _ _ _))
  clear h k
  obtain ⟨k, hk⟩ : ∃ k, k = B.length * 3 := ⟨_, rfl⟩
  rw [← hk] at H K E
  clear hk
  unfold Plays
  go_enter Tryz.func29, Tryz.ntmps29
  go_wp2_with fail
  refine (H.out).mono ?_
  rintro e w1 ⟨rfl, rfl⟩
  go_wp2_with fail
  refine (K.out).mono ?_
  rintro e w2 ⟨rfl, w3, hm3, rfl⟩
  have HE := Lib.hid (E.out w3 hm3)
  clear hm3
  go_wp2_with fail
  go_ret
  exact ⟨rfl, _, HE.out.1, HE.out.2⟩
theorem in_top {w : World} {p : Nat} {S : List Nat} {B : List Sc} {x : Sc} {M : Nat} (h : Inp w p S (B ++ [x]) M) :
    Calls Tryz.prog 30 #[Pt p] w fun e w' => e = .returned (.int .i64 (x.i : Int)) ∧ w = w' := by
  obtain ⟨g, k⟩ := h.top
  have H := Lib.hid k.last
  have h0 := k.rd.c1
  clear h k
  obtain ⟨k, hk⟩ : ∃ k, k = B.length * 3 := ⟨_, rfl⟩
  rw [← hk] at H h0
  clear hk
  go_enter Tryz.func30, Tryz.ntmps30
  go_wp2_with fail
  refine (H.out).mono ?_
  rintro e w1 ⟨rfl, rfl⟩
  go_wp2_with fail
  go_ret
  exact ⟨rfl, rfl⟩
theorem seek_top {w : World} {p : Nat} {S : List Nat} {B : List Sc} {x : Sc} {M : Nat} (h : Inp w p S (B ++ [x]) M) (n : Int) (hn : I64 n) :
    Calls Tryz.prog 256 #[Pt p, .int .i64 n] w (Plays p S (.tuple #[]) (B ++ [{ x with i := heldN x.t.length n }]) M w) := by
  obtain ⟨g, k⟩ := h.top
  have H := Lib.hid k.last
  have htl := k.tl
  have K := Lib.hid (rd_seek k.rd n (by omega) hn)
  have E := Lib.hid (k.set (heldN x.t.length n) (heldN_le _ _) w (Mod.refl [] w))
  clear h k
  obtain ⟨k, hk⟩ : ∃ k, k = B.length * 3 := ⟨_, rfl⟩
  rw [← hk] at H K E
  clear hk
  unfold Plays
  go_enter Tryz.func256, Tryz.ntmps256
  go_wp2_with fail
  refine (H.out).mono ?_
  rintro e w1 ⟨rfl, rfl⟩
  go_wp2_with fail
  refine (K.out).mono ?_
  rintro e w2 ⟨rfl, rfl⟩
  go_wp2_with fail
  exact bodyPost_end (v := .tuple #[]) (results_none rfl _ _ _) rfl ⟨rfl, _, E.out.1, E.out.2⟩
end Go.Proofs.YtifnkmddinoneaaGreatDoor.L8
namespace Go.Proofs.YtifnkmddinoneaaGreatDoor.L8
open Go.RowKit
set_option linter.unusedVariables false
set_option maxRecDepth 100000
theorem new_calls (w : World) : Calls Tryz.prog 25 #[] w fun e w' => ∃ p, e = .returned (Pt p) ∧ Inp w' p [p] [] 0 ∧ Mod [] w w' ∧ w.heap.size ≤ p := by
  go_enter Tryz.func25, Tryz.ntmps25
  go_wp2
  go_ret
  have hb := (MapKept.heap_alloc w (.cells #[.slice none 0 0, .int .i64 0] 112)).1
  refine ⟨w.heap.size, rfl, ⟨.slice none 0 0, ⟨?_, ?_, fun i => ?_, ?_, World.ownsRow_nil _ _ _ _, by simp [Value.ownBlock], by simp, by simp⟩, rfl⟩, (Mod.refl [] w).alloc _, Nat.le_refl _⟩
  · simp only [World.cell?, hb]; rfl
  · simp only [World.cell?, hb]; rfl
  · simp only [World.frozen?, hb]; rfl
  · show _ < (w.heap.push _).size; simp
def appRow (ty : TypeId) (xs : Array Value) : Sem Value := Builtin.append_ #[110, 110] ty xs
@[go_sem ↓ high] theorem builtin_appRow (ty : TypeId) (cs : Array Bool) (xs : Array Value) : builtin .append #[110, 110] ty cs xs = (do pure (.value (← appRow ty xs))) := rfl
end Go.Proofs.YtifnkmddinoneaaGreatDoor.L8
namespace Go.Proofs.YtifnkmddinoneaaGreatDoor.L8
open Go.RowKit
set_option linter.unusedVariables false
set_option maxRecDepth 100000

theorem row_sets {w : World} {e : TypeId} {k g n cap : Nat} : ∀ (vs : List Value) (o : Nat) (w : World) (xs : List Value), w.ownsRow 0 e k (.slice (some ⟨g, 0, none⟩) n cap) n xs → ∃ ys, (w.setCells g o vs).ownsRow 0 e k (.slice (some ⟨g, 0, none⟩) n cap) n ys ∧ ys.take o = xs.take o := by
  intro vs
  induction vs with
  | nil => intro o w xs h; exact ⟨xs, h, rfl⟩
  | cons v r ih =>
    intro o w xs h
    obtain ⟨ys, h1, h2⟩ := ih (o + 1) (w.setCell ⟨g, o, none⟩ v) (xs.set o v) (h.stored o v).1
    refine ⟨ys, h1, ?_⟩
    have := congrArg (List.take o) h2
    rw [List.take_take, List.take_take, Nat.min_eq_left (by omega)] at this
    rw [this, List.take_set_of_le (Nat.le_refl _)]
theorem row_cut {w : World} {e : TypeId} {k g n cap : Nat} {xs : List Value} (h : w.ownsRow 0 e k (.slice (some ⟨g, 0, none⟩) n cap) n xs) (m : Nat) (hm : m ≤ n) : w.ownsRow 0 e k (.slice (some ⟨g, 0, none⟩) m cap) m (xs.take (m * k)) := by
  have hle : m * k ≤ n * k := Nat.mul_le_mul_right k hm
  refine ⟨by rw [List.length_take, h.1]; exact Nat.min_eq_left hle, ?_⟩
  rcases h.2 with ⟨e, _⟩ | ⟨g', cap', cur, e, hb, hg, h1, h2, h3, h4⟩
  · cases e
  · injection e with e1 e2 e3
    injection e1 with e1
    injection e1 with e1 _
    subst e1 e3
    refine Or.inr ⟨g, cap, cur, rfl, hb, hg, by omega, h2, h3, ?_⟩
    rw [← h4, List.take_take, Nat.min_eq_left hle]
theorem run_clearR {w : World} {g n cap : Nat} {xs : List Value} (h : w.ownsRow 0 116 3 (.slice (some ⟨g, 0, none⟩) n cap) n xs) (k c : Nat) (hk : k < n) (ty : TypeId) :
    ∃ w' ys, (Builtin.clear_ #[110] ty #[.slice (some ⟨g, k * 3, none⟩) (n - k) c]).run Tryz.prog w = .ok (.tuple #[]) w' ∧ w'.ownsRow 0 116 3 (.slice (some ⟨g, 0, none⟩) n cap) n ys ∧ ys.take (k * 3) = xs.take (k * 3) ∧ Mod [g] w w' := by
  have hz : (Value.agg #[.string ⟨#[]⟩, .int .i64 0, .int .i64 0]).cells = #[.string ⟨#[]⟩, .int .i64 0, .int .i64 0] := rfl
  obtain ⟨zs, hzs⟩ : ∃ zs, zs = (Builtin.zeroCells (Value.agg #[.string ⟨#[]⟩, .int .i64 0, .int .i64 0]).cells (n - k)).toList := ⟨_, rfl⟩
  have hlen : zs.length = (n - k) * 3 := by rw [hzs]; simp [Builtin.zeroCells, hz]
  have hone : ∀ v ∈ zs, v.oneCell' = true := fun v hv => by
    rw [hzs] at hv
    simp [Builtin.zeroCells, hz] at hv
    obtain ⟨i, _, rfl⟩ := hv
    have : i % 3 < 3 := Nat.mod_lt _ (by omega)
    rcases (show i % 3 = 0 ∨ i % 3 = 1 ∨ i % 3 = 2 by omega) with e | e | e <;> rw [e] <;> rfl
  have hst := run_storeCells_cells (P := Tryz.prog) g (k * 3) zs 0 w (fun j hj => by
    rw [Nat.add_zero, h.cellAt _ (by rw [hlen] at hj; omega)]
    have : k * 3 + j < xs.length := by rw [h.1]; rw [hlen] at hj; omega
    simp [this]) (fun j hj => h.frozenAt _) hone
  simp only [Nat.add_zero] at hst
  obtain ⟨ys, hr, ht⟩ := row_sets (w := w) zs (k * 3) w xs h
  refine ⟨_, ys, ?_, hr, ht, (Mod.refl [g] w).sets (by simp) zs (k * 3)⟩
  obtain ⟨m, hm⟩ : ∃ m, n - k = m + 1 := ⟨n - k - 1, by omega⟩
  rw [hm] at hzs ⊢
  simp [Builtin.clear_, run_underlying Tryz.underlying110, ← hzs, hst]
theorem size_src (W : World) : (Go.sizeOf 116).run Tryz.prog W = .ok 3 W := by kernel_rfl
theorem slice_from (g n cap k : Nat) (hk : k < n) (hn : n ≤ cap) (W : World) : (Instr.sliceAt 110 (.slice (some ⟨g, 0, none⟩) n cap) (some (.int .i64 (k : Int))) none none).run Tryz.prog W = .ok (.slice (some ⟨g, k * 3, none⟩) (n - k) (cap - k)) W := by
  have ht := Tryz.underlying110
  have he : Tryz.prog.elem 110 = 116 := by simp [Program.elem, ht]
  have ht' : Tryz.prog.underlying 110 = some (.slice (Tryz.prog.elem 110)) := by rw [he]; exact ht
  rw [run_sliceAt_slice W 110 _ _ _ _ ht', run_slice_l W 110 (some ⟨g, 0, none⟩) n cap ht' .i64 k (by omega) (by omega), he, size_src]
  show Result.ok (sliced (some ⟨g, 0, none⟩) (k : Int).toNat n cap 3) W = _
  unfold sliced
  rw [Int.toNat_natCast, if_neg (by omega)]
  simp [Addr.add]
  omega
theorem slice_to (g n cap k : Nat) (hk : k ≤ cap) (W : World) : (Instr.sliceAt 110 (.slice (some ⟨g, 0, none⟩) n cap) none (some (.int .i64 (k : Int))) none).run Tryz.prog W = .ok (.slice (some ⟨g, 0, none⟩) k cap) W := by
  have ht := Tryz.underlying110
  have he : Tryz.prog.elem 110 = 116 := by simp [Program.elem, ht]
  have ht' : Tryz.prog.underlying 110 = some (.slice (Tryz.prog.elem 110)) := by rw [he]; exact ht
  rw [run_sliceAt_slice W 110 _ _ _ _ ht', run_slice_h W 110 (some ⟨g, 0, none⟩) n cap ht' .i64 k (by omega) (by omega), he, size_src]
  show Result.ok (sliced (some ⟨g, 0, none⟩) 0 (k : Int).toNat cap 3) W = _
  unfold sliced
  rw [Int.toNat_natCast, Nat.zero_mul]
  split <;> simp [Addr.add]
theorem cutted {w W : World} {p g n cap k : Nat} {L : List Sc} {M : Nat} {ys : List Value} (h : InpV w p (.slice (some ⟨g, 0, none⟩) n cap) L M) (hn : n = L.length) (hk : k ≤ n) (hr : W.ownsRow 0 116 3 (.slice (some ⟨g, 0, none⟩) n cap) n ys) (ht : ys.take (k * 3) = (flats L).take (k * 3)) (hm : Mod [g] w W) :
    InpV (W.setCell ⟨p, 0, none⟩ (.slice (some ⟨g, 0, none⟩) k cap)) p (.slice (some ⟨g, 0, none⟩) k cap) (L.take k) M ∧ Turn [p, g] [p, g] w (W.setCell ⟨p, 0, none⟩ (.slice (some ⟨g, 0, none⟩) k cap)) := by
  have hne : p ∉ [g] := by
    have := h.sep
    intro e
    exact this (by simp at e; rw [e]; rfl)
  have hm5 : Mod [p] W (W.setCell ⟨p, 0, none⟩ (.slice (some ⟨g, 0, none⟩) k cap)) := (Mod.refl [p] W).set (x := ⟨p, 0, none⟩) (Or.inl (by simp)) _
  have hl : (L.take k).length = k := by rw [List.length_take]; omega
  have hrow := row_cut hr k hk
  rw [ht, flats_take] at hrow
  refine ⟨⟨World.cell?_setCell_same _ _ _ (h := hm.cell (x := ⟨p, 0, none⟩) hne h.c0), ?_, fun i => (World.frozen?_setCell _ _ _ _).trans ((hm.frozen (x := ⟨p, i, none⟩) hne h.lp).trans (h.f i)), Nat.lt_of_lt_of_le h.lp (Nat.le_trans hm.size hm5.size), ?_, h.sep, fun x hx => h.ok x (List.mem_of_mem_take hx), by have := h.dep; omega⟩, Turn.of ((hm.up (by simp)).trans (hm5.up (by simp)))⟩
  · rw [World.cell?_setCell_other (h := by simp)]
    exact hm.cell (x := ⟨p, 1, none⟩) hne h.c1
  · rw [hl]
    exact row_mod hrow hm5 fun x hx => by
      injection hx with hx
      intro hp
      exact hne (by simp at hp; rw [← hp, ← hx]; simp)
theorem cut_same {v : Value} {w : World} {D n : Int} (hd : Calls Tryz.prog 33 #[v] w fun e w' => e = .returned (.int .i64 D) ∧ w = w') (h : D ≤ max n 0) (hn : I64 n) :
    Calls Tryz.prog 255 #[v, .int .i64 n] w fun e w' => e = .returned (.tuple #[]) ∧ w = w' := by
  have H := Lib.hid hd
  clear hd
  by_cases h0 : 0 ≤ n
  · have h1 : D ≤ n := by omega
    clear h
    go_enter Tryz.func255, Tryz.ntmps255
    go_wp2_with fail
    all_goals
      refine (H.out).mono ?_
      rintro e w1 ⟨rfl, rfl⟩
      go_wp2_with fail
      exact bodyPost_ret (v := .tuple #[]) (results_none rfl _ _ _) rfl ⟨rfl, rfl⟩
  · have h1 : D ≤ 0 := by omega
    clear h
    go_enter Tryz.func255, Tryz.ntmps255
    go_wp2_with fail
    all_goals
      refine (H.out).mono ?_
      rintro e w1 ⟨rfl, rfl⟩
      go_wp2_with fail
      exact bodyPost_ret (v := .tuple #[]) (results_none rfl _ _ _) rfl ⟨rfl, rfl⟩
theorem cut_less {w : World} {p : Nat} {S : List Nat} {L : List Sc} {M : Nat} (h : Inp w p S L M) (n : Int) (k : Nat) (hk : max n 0 = (k : Int)) (hl : k < L.length) (hn : I64 n) :
    Calls Tryz.prog 255 #[Pt p, .int .i64 n] w (Plays p S (.tuple #[]) (L.take k) M w) := by
  have H := Lib.hid (depth_calls h)
  obtain ⟨v, h, rfl⟩ := h
  obtain ⟨g, cap, hv⟩ : ∃ g cap, v = .slice (some ⟨g, 0, none⟩) L.length cap := by
    rcases h.row.2 with ⟨_, h0⟩ | ⟨g, cap, cur, e, _⟩
    · omega
    · exact ⟨g, cap, e⟩
  subst hv
  have hcap : L.length ≤ cap := by
    rcases h.row.2 with ⟨e, _⟩ | ⟨g', cap', cur, e, _, _, hh, _⟩
    · cases e
    · injection e with _ _ e; omega
  have hdep := h.dep
  obtain ⟨W, ys, hc, hr, ht, hm⟩ := run_clearR h.row k (cap - k) hl 0
  obtain ⟨m, hmL⟩ : ∃ m, m = L.length := ⟨_, rfl⟩
  have s1 := slice_from g m cap k (by omega) (by omega)
  have s2 := slice_to g m cap k (by omega)
  have hfin := cutted h rfl (by omega) hr ht hm
  have hne : p ∉ [g] := by
    have := h.sep
    intro e
    exact this (by simp at e; rw [e]; rfl)
  have h0 := h.c0
  have g0 := hm.cell (x := ⟨p, 0, none⟩) hne h.c0
  have gf0 := (hm.frozen (x := ⟨p, 0, none⟩) hne h.lp).trans (h.f 0)
  have HF := Lib.hid hfin
  rw [← hmL] at H h0 g0 hc hl hcap hdep
  have e1 : ¬ ((m : Int) ≤ (k : Int)) := by omega
  have hkb : (k : Int) ≤ 8 := by omega
  clear h hr ht hm hfin hne hmL
  unfold Plays
  by_cases hn0 : 0 ≤ n
  · obtain rfl : n = (k : Int) := by omega
    clear hk
    go_enter Tryz.func255, Tryz.ntmps255
    go_wp2_with fail
    all_goals
      refine (H.out).mono ?_
      rintro e w1 ⟨rfl, rfl⟩
      go_wp2_with fail
      exact bodyPost_end (v := .tuple #[]) (results_none rfl _ _ _) rfl ⟨rfl, _, ⟨_, HF.out.1, rfl⟩, HF.out.2⟩
  · obtain rfl : k = 0 := by omega
    simp only [Nat.zero_mul, Nat.sub_zero] at hc s1
    simp only [Int.cast_ofNat_Int] at s1 s2
    clear hk
    go_enter Tryz.func255, Tryz.ntmps255
    go_wp2_with fail
    all_goals
      refine (H.out).mono ?_
      rintro e w1 ⟨rfl, rfl⟩
      go_wp2_with fail
      exact bodyPost_end (v := .tuple #[]) (results_none rfl _ _ _) rfl ⟨rfl, _, ⟨_, HF.out.1, rfl⟩, HF.out.2⟩
theorem cut_ok {w : World} {p : Nat} {S : List Nat} {L : List Sc} {M : Nat} (h : Inp w p S L M) (n : Int) (hn : I64 n) :
    Calls Tryz.prog 255 #[Pt p, .int .i64 n] w (Plays p S (.tuple #[]) (L.take (heldN L.length n)) M w) := by
  by_cases hl : (max n 0).toNat < L.length
  · have e : heldN L.length n = (max n 0).toNat := by unfold heldN; omega
    rw [e]
    exact cut_less h n _ (by omega) hl hn
  · have e : heldN L.length n = L.length := by unfold heldN; omega
    rw [e, List.take_length]
    refine (cut_same (depth_calls h) (by omega) hn).mono ?_
    rintro e w1 ⟨rfl, rfl⟩
    exact ⟨rfl, S, h, Turn.refl S w⟩
end Go.Proofs.YtifnkmddinoneaaGreatDoor.L8
