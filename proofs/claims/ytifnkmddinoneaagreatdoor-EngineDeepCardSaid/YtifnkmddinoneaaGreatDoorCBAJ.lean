/- Layer 13: the operations as values: what each closure is, and what lies in its boxes; a map of some of them. No condition. Layer 13: what makes the operations: closures over boxes. No condition. Layer 13: the operations of layers 1, 4, 6, and those over pairs, as maps. No condition. Layer 13: the maps of operations that the state lays. No condition. Layer 13: all operations of a state, in one map. No condition. -/
import Derived.Test.YtifnkmddinoneaaGreatDoorCBAH
import Derived.Test.YtifnkmddinoneaaGreatDoorCBAI
set_option maxRecDepth 100000
namespace Go.Proofs.YtifnkmddinoneaaGreatDoor
open Go.RowKit
set_option linter.unusedVariables false

/-- A function that a closure holds: a plain one; a method of the memory; a closure over one box. -/
inductive Dv where
  | fn (F : FuncId)
  | bound (F : FuncId)
  | box (F : FuncId) (x : Value)
inductive Shp where
  | plain (k : Int) (F : FuncId)
  | self (k : Int) (F : FuncId)
  | one (k : Int) (G : FuncId) (d : Dv)
  | stk
def Dv.is (w : World) (lo m : Nat) : Dv → Value → Prop
  | .fn F, v => v = .func (.func F) #[] #[]
  | .bound F, v => v = .func (.func F) #[Pt m] #[]
  | .box F x, v => ∃ b, lo ≤ b ∧ w.cell? ⟨b, 0, none⟩ = some x ∧ v = .func (.func F) #[] #[Pt b]
def Shp.is (w : World) (lo s m : Nat) (n : Int) : Shp → Value → Prop
  | .plain k F, v => v = .agg #[.int .i64 k, .func (.func F) #[] #[]]
  | .self k F, v => ∃ b, lo ≤ b ∧ w.cell? ⟨b, 0, none⟩ = some (Pt s) ∧ v = .agg #[.int .i64 k, .func (.func F) #[] #[Pt b]]
  | .one k G d, v => ∃ b dv, lo ≤ b ∧ w.cell? ⟨b, 0, none⟩ = some dv ∧ d.is w lo m dv ∧ v = .agg #[.int .i64 k, .func (.func G) #[] #[Pt b]]
  | .stk, v => ∃ b c, lo ≤ b ∧ lo ≤ c ∧ w.cell? ⟨b, 0, none⟩ = some (Pt s) ∧ w.cell? ⟨c, 0, none⟩ = some (.int .i64 n) ∧ v = .agg #[.int .i64 0, .func (.func 134) #[] #[Pt b, Pt c]]
def shpL (s : Nat) : Int → Option Shp
  | 43 => some (.plain 1 140)
  | 44 => some (.one 4 273 (.fn 144))
  | 45 => some (.one 4 273 (.fn 145))
  | 46 => some (.one 2 277 (.fn 146))
  | 47 => some (.one 2 277 (.fn 148))
  | 48 => some (.one 4 278 (.fn 150))
  | 49 => some (.one 4 278 (.fn 151))
  | 50 => some (.one 4 278 (.fn 152))
  | 51 => some (.one 2 277 (.fn 153))
  | 52 => some (.one 2 277 (.fn 154))
  | 53 => some (.one 2 279 (.fn 156))
  | 54 => some (.one 2 279 (.fn 157))
  | 55 => some (.one 3 281 (.fn 159))
  | 56 => some (.one 3 281 (.fn 160))
  | 57 => some (.one 3 281 (.fn 161))
  | 58 => some (.plain 3 162)
  | 59 => some (.plain 3 163)
  | 60 => some (.plain 2 164)
  | 71 => some (.one 1 262 (.box 285 (.func (.func 166) #[] #[])))
  | 72 => some (.one 1 262 (.fn 167))
  | 73 => some (.one 1 262 (.bound 170))
  | 74 => some (.self 2 171)
  | 75 => some (.one 1 262 (.box 172 (Pt s)))
  | 76 => some (.self 2 174)
  | 77 => some (.self 2 176)
  | 78 => some (.self 1 178)
  | 79 => some (.self 3 180)
  | 80 => some (.self 3 182)
  | 81 => some (.self 3 184)
  | 82 => some (.self 0 190)
  | 83 => some (.self 1 191)
  | 84 => some (.self 1 192)
  | 85 => some (.self 1 193)
  | 86 => some (.self 0 195)
  | 87 => some (.one 1 262 (.box 285 (.func (.func 168) #[] #[])))
  | 88 => some (.one 1 262 (.box 285 (.func (.func 169) #[] #[])))
  | 89 => some (.self 1 186)
  | 90 => some (.self 1 197)
  | 91 => some (.self 1 200)
  | 92 => some (.self 1 202)
  | 93 => some (.self 2 203)
  | 94 => some (.self 1 205)
  | 95 => some (.self 0 207)
  | 96 => some (.self 0 208)
  | 97 => some (.self 1 209)
  | 98 => some (.self 2 211)
  | 99 => some (.self 0 213)
  | 100 => some (.self 0 188)
  | 101 => some (.self 0 189)
  | 102 => some (.self 0 215)
  | 103 => some (.self 2 217)
  | 104 => some (.self 2 219)
  | 105 => some (.self 1 221)
  | 106 => some (.self 1 223)
  | 107 => some (.self 2 225)
  | _ => none
def shp (s : Nat) (n : Int) : Option Shp :=
  if 1 ≤ n ∧ n ≤ 10 then some (.one 1 262 (.box 129 (.int .i64 n)))
  else if 11 ≤ n ∧ n ≤ 27 then some (.one 2 264 (.box 132 (.int .i64 n)))
  else if 28 ≤ n ∧ n ≤ 42 then some .stk
  else if 61 ≤ n ∧ n ≤ 62 then some (.one 1 262 (.box 136 (.int .i64 (n - 60))))
  else if 63 ≤ n ∧ n ≤ 70 then some (.one 2 264 (.box 138 (.int .i64 (n - 60))))
  else shpL s n
def Keeps (lo : Nat) (w w' : World) : Prop := ∀ b v, lo ≤ b → w.cell? ⟨b, 0, none⟩ = some v → w'.cell? ⟨b, 0, none⟩ = some v
theorem Dv.is.keep {w w' : World} {lo m : Nat} {d : Dv} {v : Value} (h : d.is w lo m v) (k : Keeps lo w w') : d.is w' lo m v := by
  cases d with
  | fn F => exact h
  | bound F => exact h
  | box F x => obtain ⟨b, h1, h2, h3⟩ := h; exact ⟨b, h1, k b x h1 h2, h3⟩
theorem Shp.is.keep {w w' : World} {lo s m : Nat} {n : Int} {S : Shp} {v : Value} (h : S.is w lo s m n v) (k : Keeps lo w w') : S.is w' lo s m n v := by
  cases S with
  | plain _ F => exact h
  | self _ F => obtain ⟨b, h1, h2, h3⟩ := h; exact ⟨b, h1, k b _ h1 h2, h3⟩
  | one _ G d => obtain ⟨b, dv, h1, h2, h3, h4⟩ := h; exact ⟨b, dv, h1, k b _ h1 h2, h3.keep k, h4⟩
  | stk => obtain ⟨b, c, h1, h2, h3, h4, h5⟩ := h; exact ⟨b, c, h1, h2, k b _ h1 h3, k c _ h2 h4, h5⟩
theorem Shp.is.op {w : World} {lo s m : Nat} {n : Int} {S : Shp} {v : Value} (h : S.is w lo s m n v) : IsOp v := by
  cases S with
  | plain k F => exact ⟨k, F, #[], #[], h⟩
  | self k F => obtain ⟨b, h1, h2, h3⟩ := h; exact ⟨_, _, _, _, h3⟩
  | one _ G d => obtain ⟨b, dv, h1, h2, h3, h4⟩ := h; exact ⟨_, _, _, _, h4⟩
  | stk => obtain ⟨b, c, h1, h2, h3, h4, h5⟩ := h; exact ⟨_, _, _, _, h5⟩
theorem Keeps.mod {S : List Nat} {w w' : World} {lo : Nat} (h : Mod S w w') (hS : ∀ x ∈ S, ∀ v, w.cell? ⟨x, 0, none⟩ = some v → x < lo) : Keeps lo w w' := fun b v hb hc =>
  h.cell (x := ⟨b, 0, none⟩) (fun hx => by have := hS b hx v hc; omega) hc
theorem Keeps.far {w w' : World} {lo : Nat} (h : Mod [] w w') : Keeps lo w w' := .mod h (by simp)
theorem Keeps.map {w w' : World} {lo M : Nat} {f : Int → Option Value} (hm : MapV w M f) (h : Mod [M] w w') : Keeps lo w w' :=
  .mod h fun x hx v hc => absurd (by simpa using hx) (hm.cell_ne hc)
def Grp (w : World) (lo s m M : Nat) (D : Int → Prop) : Prop := ∃ f, MapV w M f ∧ lo ≤ M ∧ (∀ n, (f n).isSome = true ↔ D n) ∧ ∀ n v, f n = some v → ∃ S, shp s n = some S ∧ S.is w lo s m n v
theorem Grp.lt {w : World} {lo s m M : Nat} {D : Int → Prop} (h : Grp w lo s m M D) : M < w.heap.size := by obtain ⟨f, h, _⟩ := h; exact h.lt
theorem Grp.far {w w' : World} {lo s m M : Nat} {D : Int → Prop} (h : Grp w lo s m M D) (k : Mod [] w w') : Grp w' lo s m M D := by
  obtain ⟨f, h1, h2, h3, h4⟩ := h
  exact ⟨f, h1.far k, h2, h3, fun n v hv => by obtain ⟨S, e, hS⟩ := h4 n v hv; exact ⟨S, e, hS.keep (.far k)⟩⟩
theorem Grp.iff {w : World} {lo s m M : Nat} {D D' : Int → Prop} (h : Grp w lo s m M D) (e : ∀ n, D n ↔ D' n) : Grp w lo s m M D' := by
  obtain ⟨f, h1, h2, h3, h4⟩ := h
  exact ⟨f, h1, h2, fun n => (h3 n).trans (e n), h4⟩
theorem Grp.new (w : World) (lo s m : Nat) (h : lo ≤ w.heap.size) : Grp (w.alloc (.map #[] 0)) lo s m w.heap.size fun _ => False :=
  ⟨_, MapV.new w, h, fun n => by simp, fun n v h => by cases h⟩
theorem Grp.put {w : World} {lo s m M : Nat} {D : Int → Prop} (h : Grp w lo s m M D) (n : Int) (v : Value) (hn : ¬ D n) (S : Shp) (e : shp s n = some S) (hS : S.is w lo s m n v) :
    ∃ w', (Instr.mapUpdate 96 (.map (some M)) (.int .i64 n) v).run Tryz.prog w = .ok () w' ∧ Grp w' lo s m M (fun x => x = n ∨ D x) ∧ Mod [M] w w' ∧ Keeps lo w w' := by
  obtain ⟨f, h1, h2, h3, h4⟩ := h
  have hf : f n = none := by
    cases hf : f n with
    | none => rfl
    | some u => exact absurd ((h3 n).1 (by rw [hf]; rfl)) hn
  obtain ⟨w', r, h5, h6⟩ := h1.put (P := Tryz.prog) Tryz.underlying96 Tryz.underlying3 n v hf
  have hk : Keeps lo w w' := .map h1 h6
  refine ⟨w', r, ⟨_, h5, h2, fun x => ?_, fun x u hu => ?_⟩, h6, hk⟩
  · unfold updV
    by_cases hx : x = n
    · simp [hx]
    · simp [hx, h3 x]
  · unfold updV at hu
    by_cases hx : x = n
    · rw [if_pos hx] at hu
      injection hu with hu
      subst hu hx
      exact ⟨S, e, hS.keep hk⟩
    · rw [if_neg hx] at hu
      obtain ⟨S', e', hS'⟩ := h4 x u hu
      exact ⟨S', e', hS'.keep hk⟩
theorem Grp.copy {w : World} {lo s m M N : Nat} {D E : Int → Prop} (h : Grp w lo s m M D) (k : Grp w lo s m N E) (hne : M ≠ N) (hDE : ∀ n, E n → ¬ D n) :
    Calls Tryz.prog 74 #[.map (some M), .map (some N)] w fun e w' => e = .returned (.tuple #[]) ∧ Grp w' lo s m M (fun n => D n ∨ E n) ∧ Mod [M] w w' := by
  obtain ⟨f, h1, h2, h3, h4⟩ := h
  obtain ⟨g, k1, k2, k3, k4⟩ := k
  refine (copy_calls h1 k1 hne fun n v hv => ?_).mono ?_
  · obtain ⟨S, e, hS⟩ := k4 n v hv
    refine ⟨hS.op, ?_⟩
    cases hf : f n with
    | none => rfl
    | some u => exact absurd ((h3 n).1 (by rw [hf]; rfl)) (hDE n ((k3 n).1 (by rw [hv]; rfl)))
  · rintro e w' ⟨he, hm, hM⟩
    have hk : Keeps lo w w' := .map h1 hM
    refine ⟨he, ⟨_, hm, h2, fun n => ?_, fun n v hv => ?_⟩, hM⟩
    · show (orV f g n).isSome = true ↔ (D n ∨ E n)
      rw [← h3, ← k3]; unfold orV; cases hf : f n <;> simp
    · unfold orV at hv
      cases hf : f n with
      | none =>
        rw [hf] at hv
        obtain ⟨S, e, hS⟩ := k4 n v (by simpa using hv)
        exact ⟨S, e, hS.keep hk⟩
      | some u =>
        rw [hf] at hv
        obtain rfl : u = v := by simpa using hv
        obtain ⟨S, e, hS⟩ := h4 n u hf
        exact ⟨S, e, hS.keep hk⟩
end Go.Proofs.YtifnkmddinoneaaGreatDoor
namespace Go.Proofs.YtifnkmddinoneaaGreatDoor
open Go.RowKit
set_option linter.unusedVariables false

/-- A value of shape S is made. -/
def MadeS (lo s m : Nat) (n : Int) (S : Shp) (w : World) (e : Ending) (w' : World) : Prop := ∃ v, e = .returned v ∧ S.is w' lo s m n v ∧ Mod [] w w'
theorem cell_new (w : World) (v : Value) (t : TypeId) : (w.alloc (.cells #[v] t)).cell? ⟨w.heap.size, 0, none⟩ = some v := by rw [World.cell?_alloc_new]; rfl
theorem far_alloc (w : World) (o : Obj) : Mod [] w (w.alloc o) := (Mod.refl [] w).alloc o
theorem Own.mod {S : List Nat} {w w' : World} {b : Nat} {x y : Value} (h : Own w b x y) (k : Mod S w w') (hb : b ∉ S) : Own w' b x y :=
  ⟨k.cell hb h.c0, k.cell hb h.c1, (k.frozen (x := ⟨b, 0, none⟩) hb h.lt).trans h.f0, (k.frozen (x := ⟨b, 1, none⟩) hb h.lt).trans h.f1, Nat.lt_of_lt_of_le h.lt k.size⟩
theorem Mod.set2 {S : List Nat} {a b : World} (h : Mod S a b) {n : Nat} (hn : n ∈ S ∨ a.heap.size ≤ n) (u v : Value) : Mod S a ((b.setCell ⟨n, 0, none⟩ u).setCell ⟨n, 1, none⟩ v) := (h.set (x := ⟨n, 0, none⟩) hn u).set (x := ⟨n, 1, none⟩) hn v
theorem set2_mod (w : World) (n : Nat) (u v : Value) : Mod [n] w ((w.setCell ⟨n, 0, none⟩ u).setCell ⟨n, 1, none⟩ v) := (Mod.refl [n] w).set2 (by simp) u v
theorem own_op (w : World) (t : TypeId) : Own (w.alloc (.cells #[.int .i64 0, .nilFunc] t)) w.heap.size (.int .i64 0) .nilFunc := Own.last
def Made (G : FuncId) (k : Int) (d : Value) (w : World) (e : Ending) (w' : World) : Prop := ∃ b, e = .returned (.agg #[.int .i64 k, .func (.func G) #[] #[Pt b]]) ∧ w.heap.size ≤ b ∧ w'.cell? ⟨b, 0, none⟩ = some d ∧ Mod [] w w'
theorem ofcell_made (F : FuncId) (x y : Array Value) (w : World) : Calls Tryz.prog 128 #[.func (.func F) x y] w (Made 262 1 (.func (.func F) x y) w) := by
  go_enter Tryz.func128, Tryz.ntmps128
  go_wp2
  exact bodyPost_ret (v := .agg #[.int .i64 1, .func (.func 262) #[] #[Pt w.heap.size]]) (by simp [results, Tryz.results128, go_sem]) rfl ⟨_, rfl, Nat.le_refl _, (far_alloc _ _).cell (by simp) (cell_new w _ _), (far_alloc _ _).alloc _⟩
theorem ofcells_made (F : FuncId) (x y : Array Value) (w : World) : Calls Tryz.prog 131 #[.func (.func F) x y] w (Made 264 2 (.func (.func F) x y) w) := by
  go_enter Tryz.func131, Tryz.ntmps131
  go_wp2
  exact bodyPost_ret (v := .agg #[.int .i64 2, .func (.func 264) #[] #[Pt w.heap.size]]) (by simp [results, Tryz.results131, go_sem]) rfl ⟨_, rfl, Nat.le_refl _, (far_alloc _ _).cell (by simp) (cell_new w _ _), (far_alloc _ _).alloc _⟩
theorem ofpair_made (F : FuncId) (x y : Array Value) (w : World) : Calls Tryz.prog 147 #[.func (.func F) x y] w (Made 277 2 (.func (.func F) x y) w) := by
  go_enter Tryz.func147, Tryz.ntmps147
  go_wp2
  exact bodyPost_ret (v := .agg #[.int .i64 2, .func (.func 277) #[] #[Pt w.heap.size]]) (by simp [results, Tryz.results147, go_sem]) rfl ⟨_, rfl, Nat.le_refl _, (far_alloc _ _).cell (by simp) (cell_new w _ _), (far_alloc _ _).alloc _⟩
theorem ofpairs_made (F : FuncId) (x y : Array Value) (w : World) : Calls Tryz.prog 143 #[.func (.func F) x y] w (Made 273 4 (.func (.func F) x y) w) := by
  go_enter Tryz.func143, Tryz.ntmps143
  go_wp2
  exact bodyPost_ret (v := .agg #[.int .i64 4, .func (.func 273) #[] #[Pt w.heap.size]]) (by simp [results, Tryz.results143, go_sem]) rfl ⟨_, rfl, Nat.le_refl _, (far_alloc _ _).cell (by simp) (cell_new w _ _), (far_alloc _ _).alloc _⟩
theorem comparison_made (F : FuncId) (x y : Array Value) (w : World) : Calls Tryz.prog 149 #[.func (.func F) x y] w (Made 278 4 (.func (.func F) x y) w) := by
  go_enter Tryz.func149, Tryz.ntmps149
  go_wp2
  exact bodyPost_ret (v := .agg #[.int .i64 4, .func (.func 278) #[] #[Pt w.heap.size]]) (by simp [results, Tryz.results149, go_sem]) rfl ⟨_, rfl, Nat.le_refl _, (far_alloc _ _).cell (by simp) (cell_new w _ _), (far_alloc _ _).alloc _⟩
theorem product_made (F : FuncId) (x y : Array Value) (w : World) : Calls Tryz.prog 155 #[.func (.func F) x y] w (Made 279 2 (.func (.func F) x y) w) := by
  go_enter Tryz.func155, Tryz.ntmps155
  go_wp2
  exact bodyPost_ret (v := .agg #[.int .i64 2, .func (.func 279) #[] #[Pt w.heap.size]]) (by simp [results, Tryz.results155, go_sem]) rfl ⟨_, rfl, Nat.le_refl _, (far_alloc _ _).cell (by simp) (cell_new w _ _), (far_alloc _ _).alloc _⟩
theorem division_made (F : FuncId) (x y : Array Value) (w : World) : Calls Tryz.prog 158 #[.func (.func F) x y] w (Made 281 3 (.func (.func F) x y) w) := by
  go_enter Tryz.func158, Tryz.ntmps158
  go_wp2
  exact bodyPost_ret (v := .agg #[.int .i64 3, .func (.func 281) #[] #[Pt w.heap.size]]) (by simp [results, Tryz.results158, go_sem]) rfl ⟨_, rfl, Nat.le_refl _, (far_alloc _ _).cell (by simp) (cell_new w _ _), (far_alloc _ _).alloc _⟩
set_option maxRecDepth 10000 in
theorem always_made (F : FuncId) (w : World) (lo s m : Nat) (n : Int) (hlo : lo ≤ w.heap.size) : Calls Tryz.prog 165 #[.func (.func F) #[] #[]] w (MadeS lo s m n (.one 1 262 (.box 285 (.func (.func F) #[] #[]))) w) := by
  obtain ⟨W1, hW1⟩ : ∃ W, W = w.alloc (.cells #[.func (.func F) #[] #[]] 196) := ⟨_, rfl⟩
  have b1 : W1.cell? ⟨w.heap.size, 0, none⟩ = some (.func (.func F) #[] #[]) := by rw [hW1]; exact cell_new w _ _
  have m1 : Mod [] w W1 := by rw [hW1]; exact far_alloc _ _
  have s1 : W1.heap.size = w.heap.size + 1 := by rw [hW1, size_alloc]
  have o2 := own_op W1 142
  have m2 := far_alloc W1 (.cells #[.int .i64 0, .nilFunc] 142)
  rw [s1] at o2
  go_enter Tryz.func165, Tryz.ntmps165
  go_wp2_with fail
  rw [← hW1]
  refine (ofcell_made 285 #[] #[Pt w.heap.size] _).mono ?_
  rintro e w1 ⟨b, rfl, hb, hc, hm⟩
  have hbb := hb
  rw [size_alloc, s1] at hbb
  have o3 := o2.mod hm (by simp)
  have m3 := m2.far hm
  have M := m1.far m3
  have b3 := m3.cell (x := ⟨w.heap.size, 0, none⟩) (by simp) b1
  obtain ⟨c0, c1, f0, f1, _⟩ := o3
  have k := set2_mod w1 (w.heap.size + 1) (.int .i64 1) (.func (.func 262) #[] #[Pt b])
  have M2 := M.then k (by simp)
  have b4 := k.cell (x := ⟨w.heap.size, 0, none⟩) (by simp) b3
  have b5 := k.cell (x := ⟨b, 0, none⟩) (by simp; omega) hc
  clear hW1 b1 m1 o2 m2 hm m3 M b3 hc k hb
  go_wp2
  exact bodyPost_ret (v := .agg #[.int .i64 1, .func (.func 262) #[] #[Pt b]]) (by simp [results, Tryz.results165, go_sem, c0, c1]) rfl ⟨_, rfl, ⟨b, _, by omega, b5, ⟨w.heap.size, hlo, b4, rfl⟩, rfl⟩, M2⟩
end Go.Proofs.YtifnkmddinoneaaGreatDoor
namespace Go.Proofs.YtifnkmddinoneaaGreatDoor
open Go.RowKit
set_option linter.unusedVariables false
set_option maxRecDepth 10000 in
theorem cellop1_made (n : Int) (hn : 1 ≤ n ∧ n ≤ 10) (w : World) (lo s m : Nat) (r : Int) (hlo : lo ≤ w.heap.size) : Calls Tryz.prog 71 #[.int .i64 n] w (MadeS lo s m r (.one 1 262 (.box 129 (.int .i64 n))) w) := by
  have hc := Lib.hid (fun W => many_calls n W)
  rw [if_pos hn] at hc
  obtain ⟨W1, hW1⟩ : ∃ W, W = w.alloc (.cells #[.int .i64 n] 3) := ⟨_, rfl⟩
  have b1 : W1.cell? ⟨w.heap.size, 0, none⟩ = some (.int .i64 n) := by rw [hW1]; exact cell_new w _ _
  have m1 : Mod [] w W1 := by rw [hW1]; exact far_alloc _ _
  have s1 : W1.heap.size = w.heap.size + 1 := by rw [hW1, size_alloc]
  have o2 := own_op W1 142
  have m2 := far_alloc W1 (.cells #[.int .i64 0, .nilFunc] 142)
  have b2 := m2.cell (x := ⟨w.heap.size, 0, none⟩) (by simp) b1
  rw [s1] at o2
  go_enter Tryz.func71, Tryz.ntmps71
  go_wp2_with (first | (refine (hc.out _).mono ?_; rintro e w' ⟨rfl, rfl⟩) | fail)
  refine (ofcell_made 129 #[] #[Pt w.heap.size] _).mono ?_
  rintro e w1 ⟨b, rfl, hb, hc, hm⟩
  rw [← hW1] at hb hm
  have hbb := hb
  rw [size_alloc, s1] at hbb
  have o3 := o2.mod hm (by simp)
  have m3 := m2.far hm
  have M := m1.far m3
  have b3 := m3.cell (x := ⟨w.heap.size, 0, none⟩) (by simp) b1
  obtain ⟨c0, c1, f0, f1, _⟩ := o3
  have k := set2_mod w1 (w.heap.size + 1) (.int .i64 1) (.func (.func 262) #[] #[Pt b])
  have M2 := M.then k (by simp)
  have b4 := k.cell (x := ⟨w.heap.size, 0, none⟩) (by simp) b3
  have b5 := k.cell (x := ⟨b, 0, none⟩) (by simp; omega) hc
  clear hW1 b1 m1 o2 m2 hm m3 M b3 hc k hb
  go_wp2
  exact bodyPost_ret (v := .agg #[.int .i64 1, .func (.func 262) #[] #[Pt b]]) (by simp [results, Tryz.results71, go_sem, c0, c1]) rfl ⟨_, rfl, ⟨b, _, by omega, b5, ⟨w.heap.size, hlo, b4, rfl⟩, rfl⟩, M2⟩
set_option maxRecDepth 10000 in
theorem cellop2_made (n : Int) (hn : 11 ≤ n ∧ n ≤ 27) (w : World) (lo s m : Nat) (r : Int) (hlo : lo ≤ w.heap.size) : Calls Tryz.prog 71 #[.int .i64 n] w (MadeS lo s m r (.one 2 264 (.box 132 (.int .i64 n))) w) := by
  have hc := Lib.hid (fun W => many_calls n W)
  rw [if_neg (by omega), if_pos hn] at hc
  obtain ⟨W1, hW1⟩ : ∃ W, W = w.alloc (.cells #[.int .i64 n] 3) := ⟨_, rfl⟩
  have b1 : W1.cell? ⟨w.heap.size, 0, none⟩ = some (.int .i64 n) := by rw [hW1]; exact cell_new w _ _
  have m1 : Mod [] w W1 := by rw [hW1]; exact far_alloc _ _
  have s1 : W1.heap.size = w.heap.size + 1 := by rw [hW1, size_alloc]
  have o2 := own_op W1 142
  have m2 := far_alloc W1 (.cells #[.int .i64 0, .nilFunc] 142)
  have b2 := m2.cell (x := ⟨w.heap.size, 0, none⟩) (by simp) b1
  rw [s1] at o2
  go_enter Tryz.func71, Tryz.ntmps71
  go_wp2_with (first | (refine (hc.out _).mono ?_; rintro e w' ⟨rfl, rfl⟩) | fail)
  refine (ofcells_made 132 #[] #[Pt w.heap.size] _).mono ?_
  rintro e w1 ⟨b, rfl, hb, hc, hm⟩
  rw [← hW1] at hb hm
  have hbb := hb
  rw [size_alloc, s1] at hbb
  have o3 := o2.mod hm (by simp)
  have m3 := m2.far hm
  have M := m1.far m3
  have b3 := m3.cell (x := ⟨w.heap.size, 0, none⟩) (by simp) b1
  obtain ⟨c0, c1, f0, f1, _⟩ := o3
  have k := set2_mod w1 (w.heap.size + 1) (.int .i64 2) (.func (.func 264) #[] #[Pt b])
  have M2 := M.then k (by simp)
  have b4 := k.cell (x := ⟨w.heap.size, 0, none⟩) (by simp) b3
  have b5 := k.cell (x := ⟨b, 0, none⟩) (by simp; omega) hc
  clear hW1 b1 m1 o2 m2 hm m3 M b3 hc k hb
  go_wp2
  exact bodyPost_ret (v := .agg #[.int .i64 2, .func (.func 264) #[] #[Pt b]]) (by simp [results, Tryz.results71, go_sem, c0, c1]) rfl ⟨_, rfl, ⟨b, _, by omega, b5, ⟨w.heap.size, hlo, b4, rfl⟩, rfl⟩, M2⟩
set_option maxRecDepth 10000 in
theorem realop1_1 (n : Int) (hn : 1 ≤ n ∧ n ≤ 1) (w : World) (lo s m : Nat) (r : Int) (hlo : lo ≤ w.heap.size) : Calls Tryz.prog 73 #[.int .i64 n] w (MadeS lo s m r (.one 1 262 (.box 136 (.int .i64 n))) w) := by
  have hc := Lib.hid (fun W => many_calls n W)
  obtain rfl : n = 1 := by omega
  clear hn
  obtain ⟨W1, hW1⟩ : ∃ W, W = w.alloc (.cells #[.int .i64 1] 3) := ⟨_, rfl⟩
  have b1 : W1.cell? ⟨w.heap.size, 0, none⟩ = some (.int .i64 1) := by rw [hW1]; exact cell_new w _ _
  have m1 : Mod [] w W1 := by rw [hW1]; exact far_alloc _ _
  have s1 : W1.heap.size = w.heap.size + 1 := by rw [hW1, size_alloc]
  have o2 := own_op W1 142
  have m2 := far_alloc W1 (.cells #[.int .i64 0, .nilFunc] 142)
  have b2 := m2.cell (x := ⟨w.heap.size, 0, none⟩) (by simp) b1
  rw [s1] at o2
  go_enter Tryz.func73, Tryz.ntmps73
  go_wp2_with (first | (refine (hc.out _).mono ?_; rintro e w' ⟨rfl, rfl⟩) | fail)
  refine (ofcell_made 136 #[] #[Pt w.heap.size] _).mono ?_
  rintro e w1 ⟨b, rfl, hb, hc, hm⟩
  rw [← hW1] at hb hm
  have hbb := hb
  rw [size_alloc, s1] at hbb
  have o3 := o2.mod hm (by simp)
  have m3 := m2.far hm
  have M := m1.far m3
  have b3 := m3.cell (x := ⟨w.heap.size, 0, none⟩) (by simp) b1
  obtain ⟨c0, c1, f0, f1, _⟩ := o3
  have k := set2_mod w1 (w.heap.size + 1) (.int .i64 1) (.func (.func 262) #[] #[Pt b])
  have M2 := M.then k (by simp)
  have b4 := k.cell (x := ⟨w.heap.size, 0, none⟩) (by simp) b3
  have b5 := k.cell (x := ⟨b, 0, none⟩) (by simp; omega) hc
  clear hW1 b1 m1 o2 m2 hm m3 M b3 hc k hb
  go_wp2
  exact bodyPost_ret (v := .agg #[.int .i64 1, .func (.func 262) #[] #[Pt b]]) (by simp [results, Tryz.results73, go_sem, c0, c1]) rfl ⟨_, rfl, ⟨b, _, by omega, b5, ⟨w.heap.size, hlo, b4, rfl⟩, rfl⟩, M2⟩
set_option maxRecDepth 10000 in
theorem realop1_2 (n : Int) (hn : 2 ≤ n ∧ n ≤ 2) (w : World) (lo s m : Nat) (r : Int) (hlo : lo ≤ w.heap.size) : Calls Tryz.prog 73 #[.int .i64 n] w (MadeS lo s m r (.one 1 262 (.box 136 (.int .i64 n))) w) := by
  have hc := Lib.hid (fun W => many_calls n W)
  obtain rfl : n = 2 := by omega
  clear hn
  obtain ⟨W1, hW1⟩ : ∃ W, W = w.alloc (.cells #[.int .i64 2] 3) := ⟨_, rfl⟩
  have b1 : W1.cell? ⟨w.heap.size, 0, none⟩ = some (.int .i64 2) := by rw [hW1]; exact cell_new w _ _
  have m1 : Mod [] w W1 := by rw [hW1]; exact far_alloc _ _
  have s1 : W1.heap.size = w.heap.size + 1 := by rw [hW1, size_alloc]
  have o2 := own_op W1 142
  have m2 := far_alloc W1 (.cells #[.int .i64 0, .nilFunc] 142)
  have b2 := m2.cell (x := ⟨w.heap.size, 0, none⟩) (by simp) b1
  rw [s1] at o2
  go_enter Tryz.func73, Tryz.ntmps73
  go_wp2_with (first | (refine (hc.out _).mono ?_; rintro e w' ⟨rfl, rfl⟩) | fail)
  refine (ofcell_made 136 #[] #[Pt w.heap.size] _).mono ?_
  rintro e w1 ⟨b, rfl, hb, hc, hm⟩
  rw [← hW1] at hb hm
  have hbb := hb
  rw [size_alloc, s1] at hbb
  have o3 := o2.mod hm (by simp)
  have m3 := m2.far hm
  have M := m1.far m3
  have b3 := m3.cell (x := ⟨w.heap.size, 0, none⟩) (by simp) b1
  obtain ⟨c0, c1, f0, f1, _⟩ := o3
  have k := set2_mod w1 (w.heap.size + 1) (.int .i64 1) (.func (.func 262) #[] #[Pt b])
  have M2 := M.then k (by simp)
  have b4 := k.cell (x := ⟨w.heap.size, 0, none⟩) (by simp) b3
  have b5 := k.cell (x := ⟨b, 0, none⟩) (by simp; omega) hc
  clear hW1 b1 m1 o2 m2 hm m3 M b3 hc k hb
  go_wp2
  exact bodyPost_ret (v := .agg #[.int .i64 1, .func (.func 262) #[] #[Pt b]]) (by simp [results, Tryz.results73, go_sem, c0, c1]) rfl ⟨_, rfl, ⟨b, _, by omega, b5, ⟨w.heap.size, hlo, b4, rfl⟩, rfl⟩, M2⟩
set_option maxRecDepth 10000 in
theorem realop2_made (n : Int) (hn : 3 ≤ n ∧ n ≤ 10) (w : World) (lo s m : Nat) (r : Int) (hlo : lo ≤ w.heap.size) : Calls Tryz.prog 73 #[.int .i64 n] w (MadeS lo s m r (.one 2 264 (.box 138 (.int .i64 n))) w) := by
  have hc := Lib.hid (fun W => many_calls n W)
  have q1 : (n == 1) = false := by rw [beq_eq_false_iff_ne]; omega
  have q2 : (n == 2) = false := by rw [beq_eq_false_iff_ne]; omega
  clear hn
  obtain ⟨W1, hW1⟩ : ∃ W, W = w.alloc (.cells #[.int .i64 n] 3) := ⟨_, rfl⟩
  have b1 : W1.cell? ⟨w.heap.size, 0, none⟩ = some (.int .i64 n) := by rw [hW1]; exact cell_new w _ _
  have m1 : Mod [] w W1 := by rw [hW1]; exact far_alloc _ _
  have s1 : W1.heap.size = w.heap.size + 1 := by rw [hW1, size_alloc]
  have o2 := own_op W1 142
  have m2 := far_alloc W1 (.cells #[.int .i64 0, .nilFunc] 142)
  have b2 := m2.cell (x := ⟨w.heap.size, 0, none⟩) (by simp) b1
  rw [s1] at o2
  go_enter Tryz.func73, Tryz.ntmps73
  go_wp2_with (first | (refine (hc.out _).mono ?_; rintro e w' ⟨rfl, rfl⟩) | fail)
  refine (ofcells_made 138 #[] #[Pt w.heap.size] _).mono ?_
  rintro e w1 ⟨b, rfl, hb, hc, hm⟩
  rw [← hW1] at hb hm
  have hbb := hb
  rw [size_alloc, s1] at hbb
  have o3 := o2.mod hm (by simp)
  have m3 := m2.far hm
  have M := m1.far m3
  have b3 := m3.cell (x := ⟨w.heap.size, 0, none⟩) (by simp) b1
  obtain ⟨c0, c1, f0, f1, _⟩ := o3
  have k := set2_mod w1 (w.heap.size + 1) (.int .i64 2) (.func (.func 264) #[] #[Pt b])
  have M2 := M.then k (by simp)
  have b4 := k.cell (x := ⟨w.heap.size, 0, none⟩) (by simp) b3
  have b5 := k.cell (x := ⟨b, 0, none⟩) (by simp; omega) hc
  clear hW1 b1 m1 o2 m2 hm m3 M b3 hc k hb
  go_wp2
  exact bodyPost_ret (v := .agg #[.int .i64 2, .func (.func 264) #[] #[Pt b]]) (by simp [results, Tryz.results73, go_sem, c0, c1]) rfl ⟨_, rfl, ⟨b, _, by omega, b5, ⟨w.heap.size, hlo, b4, rfl⟩, rfl⟩, M2⟩
theorem stackop_made (s : Nat) (n : Int) (w : World) (lo m : Nat) (hlo : lo ≤ w.heap.size) : Calls Tryz.prog 72 #[Pt s, .int .i64 n] w (MadeS lo s m n .stk w) := by
  have b1 := cell_new w (Pt s) 37
  have m1 := far_alloc w (.cells #[Pt s] 37)
  have b2 := cell_new (w.alloc (.cells #[Pt s] 37)) (.int .i64 n) 3
  have m2 := far_alloc (w.alloc (.cells #[Pt s] 37)) (.cells #[.int .i64 n] 3)
  rw [size_alloc] at b2
  go_enter Tryz.func72, Tryz.ntmps72
  go_wp2
  exact bodyPost_ret (v := .agg #[.int .i64 0, .func (.func 134) #[] #[Pt w.heap.size, Pt (w.heap.size + 1)]]) (by simp [results, Tryz.results72, go_sem]) rfl
    ⟨_, rfl, ⟨w.heap.size, w.heap.size + 1, hlo, by omega, (m2.far (far_alloc _ _)).cell (by simp) b1, (far_alloc _ _).cell (by simp) b2, rfl⟩, (m1.far m2).far (far_alloc _ _)⟩
end Go.Proofs.YtifnkmddinoneaaGreatDoor
namespace Go.Proofs.YtifnkmddinoneaaGreatDoor
open Go.RowKit
set_option linter.unusedVariables false

/-- A map of operations is made. -/
def MadeM (lo s m : Nat) (D : Int → Prop) (w : World) (e : Ending) (w' : World) : Prop := ∃ M, e = .returned (.map (some M)) ∧ Grp w' lo s m M D ∧ Mod [] w w' ∧ w.heap.size ≤ M
set_option maxHeartbeats 4000000 in
set_option maxRecDepth 100000 in
theorem pairs_made (w : World) (lo s m : Nat) (hlo : lo ≤ w.heap.size) : Calls Tryz.prog 75 #[] w (MadeM lo s m (fun n => 43 ≤ n ∧ n ≤ 60) w) := by
  have hmm := @run_makeMap Tryz.prog
  have g0 := Grp.new w lo s m hlo
  have m0 := far_alloc w (.map #[] 0)
  obtain ⟨w1, r1, g1, t1, k1⟩ := g0.put 43 (.agg #[.int .i64 1, .func (.func 140) #[] #[]]) (by simp) _ rfl rfl
  have m1 := m0.then t1 (by simp)
  go_enter Tryz.func75, Tryz.ntmps75
  go_wp2_with fail
  refine (ofpairs_made 144 #[] #[] _).mono ?_
  rintro e w2 ⟨b, rfl, hb, hc, hm⟩
  have hz := m1.size
  have n2 : lo ≤ b := by omega
  have g2 := g1.far hm
  have m2 := m1.far hm
  clear m1 g1 hb hz hm
  obtain ⟨w3, r3, g3, t3, k3⟩ := g2.put 44 (.agg #[.int .i64 4, .func (.func 273) #[] #[Pt b]]) (by simp) _ rfl ⟨b, _, n2, hc, rfl, rfl⟩
  have m3 := m2.then t3 (by simp)
  clear hc n2
  go_wp2_with fail
  refine (ofpairs_made 145 #[] #[] _).mono ?_
  rintro e w4 ⟨b, rfl, hb, hc, hm⟩
  have hz := m3.size
  have n4 : lo ≤ b := by omega
  have g4 := g3.far hm
  have m4 := m3.far hm
  clear m3 g3 hb hz hm
  obtain ⟨w5, r5, g5, t5, k5⟩ := g4.put 45 (.agg #[.int .i64 4, .func (.func 273) #[] #[Pt b]]) (by simp) _ rfl ⟨b, _, n4, hc, rfl, rfl⟩
  have m5 := m4.then t5 (by simp)
  clear hc n4
  go_wp2_with fail
  refine (ofpair_made 146 #[] #[] _).mono ?_
  rintro e w6 ⟨b, rfl, hb, hc, hm⟩
  have hz := m5.size
  have n6 : lo ≤ b := by omega
  have g6 := g5.far hm
  have m6 := m5.far hm
  clear m5 g5 hb hz hm
  obtain ⟨w7, r7, g7, t7, k7⟩ := g6.put 46 (.agg #[.int .i64 2, .func (.func 277) #[] #[Pt b]]) (by simp) _ rfl ⟨b, _, n6, hc, rfl, rfl⟩
  have m7 := m6.then t7 (by simp)
  clear hc n6
  go_wp2_with fail
  refine (ofpair_made 148 #[] #[] _).mono ?_
  rintro e w8 ⟨b, rfl, hb, hc, hm⟩
  have hz := m7.size
  have n8 : lo ≤ b := by omega
  have g8 := g7.far hm
  have m8 := m7.far hm
  clear m7 g7 hb hz hm
  obtain ⟨w9, r9, g9, t9, k9⟩ := g8.put 47 (.agg #[.int .i64 2, .func (.func 277) #[] #[Pt b]]) (by simp) _ rfl ⟨b, _, n8, hc, rfl, rfl⟩
  have m9 := m8.then t9 (by simp)
  clear hc n8
  go_wp2_with fail
  refine (comparison_made 150 #[] #[] _).mono ?_
  rintro e w10 ⟨b, rfl, hb, hc, hm⟩
  have hz := m9.size
  have n10 : lo ≤ b := by omega
  have g10 := g9.far hm
  have m10 := m9.far hm
  clear m9 g9 hb hz hm
  obtain ⟨w11, r11, g11, t11, k11⟩ := g10.put 48 (.agg #[.int .i64 4, .func (.func 278) #[] #[Pt b]]) (by simp) _ rfl ⟨b, _, n10, hc, rfl, rfl⟩
  have m11 := m10.then t11 (by simp)
  clear hc n10
  go_wp2_with fail
  refine (comparison_made 151 #[] #[] _).mono ?_
  rintro e w12 ⟨b, rfl, hb, hc, hm⟩
  have hz := m11.size
  have n12 : lo ≤ b := by omega
  have g12 := g11.far hm
  have m12 := m11.far hm
  clear m11 g11 hb hz hm
  obtain ⟨w13, r13, g13, t13, k13⟩ := g12.put 49 (.agg #[.int .i64 4, .func (.func 278) #[] #[Pt b]]) (by simp) _ rfl ⟨b, _, n12, hc, rfl, rfl⟩
  have m13 := m12.then t13 (by simp)
  clear hc n12
  go_wp2_with fail
  refine (comparison_made 152 #[] #[] _).mono ?_
  rintro e w14 ⟨b, rfl, hb, hc, hm⟩
  have hz := m13.size
  have n14 : lo ≤ b := by omega
  have g14 := g13.far hm
  have m14 := m13.far hm
  clear m13 g13 hb hz hm
  obtain ⟨w15, r15, g15, t15, k15⟩ := g14.put 50 (.agg #[.int .i64 4, .func (.func 278) #[] #[Pt b]]) (by simp) _ rfl ⟨b, _, n14, hc, rfl, rfl⟩
  have m15 := m14.then t15 (by simp)
  clear hc n14
  go_wp2_with fail
  refine (ofpair_made 153 #[] #[] _).mono ?_
  rintro e w16 ⟨b, rfl, hb, hc, hm⟩
  have hz := m15.size
  have n16 : lo ≤ b := by omega
  have g16 := g15.far hm
  have m16 := m15.far hm
  clear m15 g15 hb hz hm
  obtain ⟨w17, r17, g17, t17, k17⟩ := g16.put 51 (.agg #[.int .i64 2, .func (.func 277) #[] #[Pt b]]) (by simp) _ rfl ⟨b, _, n16, hc, rfl, rfl⟩
  have m17 := m16.then t17 (by simp)
  clear hc n16
  go_wp2_with fail
  refine (ofpair_made 154 #[] #[] _).mono ?_
  rintro e w18 ⟨b, rfl, hb, hc, hm⟩
  have hz := m17.size
  have n18 : lo ≤ b := by omega
  have g18 := g17.far hm
  have m18 := m17.far hm
  clear m17 g17 hb hz hm
  obtain ⟨w19, r19, g19, t19, k19⟩ := g18.put 52 (.agg #[.int .i64 2, .func (.func 277) #[] #[Pt b]]) (by simp) _ rfl ⟨b, _, n18, hc, rfl, rfl⟩
  have m19 := m18.then t19 (by simp)
  clear hc n18
  go_wp2_with fail
  refine (product_made 156 #[] #[] _).mono ?_
  rintro e w20 ⟨b, rfl, hb, hc, hm⟩
  have hz := m19.size
  have n20 : lo ≤ b := by omega
  have g20 := g19.far hm
  have m20 := m19.far hm
  clear m19 g19 hb hz hm
  obtain ⟨w21, r21, g21, t21, k21⟩ := g20.put 53 (.agg #[.int .i64 2, .func (.func 279) #[] #[Pt b]]) (by simp) _ rfl ⟨b, _, n20, hc, rfl, rfl⟩
  have m21 := m20.then t21 (by simp)
  clear hc n20
  go_wp2_with fail
  refine (product_made 157 #[] #[] _).mono ?_
  rintro e w22 ⟨b, rfl, hb, hc, hm⟩
  have hz := m21.size
  have n22 : lo ≤ b := by omega
  have g22 := g21.far hm
  have m22 := m21.far hm
  clear m21 g21 hb hz hm
  obtain ⟨w23, r23, g23, t23, k23⟩ := g22.put 54 (.agg #[.int .i64 2, .func (.func 279) #[] #[Pt b]]) (by simp) _ rfl ⟨b, _, n22, hc, rfl, rfl⟩
  have m23 := m22.then t23 (by simp)
  clear hc n22
  go_wp2_with fail
  refine (division_made 159 #[] #[] _).mono ?_
  rintro e w24 ⟨b, rfl, hb, hc, hm⟩
  have hz := m23.size
  have n24 : lo ≤ b := by omega
  have g24 := g23.far hm
  have m24 := m23.far hm
  clear m23 g23 hb hz hm
  obtain ⟨w25, r25, g25, t25, k25⟩ := g24.put 55 (.agg #[.int .i64 3, .func (.func 281) #[] #[Pt b]]) (by simp) _ rfl ⟨b, _, n24, hc, rfl, rfl⟩
  have m25 := m24.then t25 (by simp)
  clear hc n24
  go_wp2_with fail
  refine (division_made 160 #[] #[] _).mono ?_
  rintro e w26 ⟨b, rfl, hb, hc, hm⟩
  have hz := m25.size
  have n26 : lo ≤ b := by omega
  have g26 := g25.far hm
  have m26 := m25.far hm
  clear m25 g25 hb hz hm
  obtain ⟨w27, r27, g27, t27, k27⟩ := g26.put 56 (.agg #[.int .i64 3, .func (.func 281) #[] #[Pt b]]) (by simp) _ rfl ⟨b, _, n26, hc, rfl, rfl⟩
  have m27 := m26.then t27 (by simp)
  clear hc n26
  go_wp2_with fail
  refine (division_made 161 #[] #[] _).mono ?_
  rintro e w28 ⟨b, rfl, hb, hc, hm⟩
  have hz := m27.size
  have n28 : lo ≤ b := by omega
  have g28 := g27.far hm
  have m28 := m27.far hm
  clear m27 g27 hb hz hm
  obtain ⟨w29, r29, g29, t29, k29⟩ := g28.put 57 (.agg #[.int .i64 3, .func (.func 281) #[] #[Pt b]]) (by simp) _ rfl ⟨b, _, n28, hc, rfl, rfl⟩
  have m29 := m28.then t29 (by simp)
  clear hc n28
  obtain ⟨w30, r30, g30, t30, k30⟩ := g29.put 58 (.agg #[.int .i64 3, .func (.func 162) #[] #[]]) (by simp) _ rfl rfl
  have m30 := m29.then t30 (by simp)
  obtain ⟨w31, r31, g31, t31, k31⟩ := g30.put 59 (.agg #[.int .i64 3, .func (.func 163) #[] #[]]) (by simp) _ rfl rfl
  have m31 := m30.then t31 (by simp)
  obtain ⟨w32, r32, g32, t32, k32⟩ := g31.put 60 (.agg #[.int .i64 2, .func (.func 164) #[] #[]]) (by simp) _ rfl rfl
  have m32 := m31.then t32 (by simp)
  go_wp2
  go_ret
  exact ⟨_, rfl, g32.iff (by intro n; simp only [or_false]; omega), m32, by omega⟩
set_option maxHeartbeats 4000000 in
set_option maxRecDepth 100000 in
theorem conv_made (w : World) (lo s m : Nat) (hlo : lo ≤ w.heap.size) : Calls Tryz.prog 76 #[] w (MadeM lo s m (fun n => 71 ≤ n ∧ n ≤ 72 ∨ 87 ≤ n ∧ n ≤ 88) w) := by
  have hmm := @run_makeMap Tryz.prog
  have g0 := Grp.new w lo s m hlo
  have m0 := far_alloc w (.map #[] 0)
  go_enter Tryz.func76, Tryz.ntmps76
  go_wp2_with fail
  refine (always_made 166 _ lo s m 71 (by have := m0.size; omega)).mono ?_
  rintro e w1 ⟨v, rfl, hv, hm⟩
  have g1 := g0.far hm
  have m1 := m0.far hm
  clear m0 g0 hm
  obtain ⟨w2, r2, g2, t2, k2⟩ := g1.put 71 (v) (by simp) _ rfl hv
  have m2 := m1.then t2 (by simp)
  clear hv
  go_wp2_with fail
  refine (ofcell_made 167 #[] #[] _).mono ?_
  rintro e w3 ⟨b, rfl, hb, hc, hm⟩
  have hz := m2.size
  have n3 : lo ≤ b := by omega
  have g3 := g2.far hm
  have m3 := m2.far hm
  clear m2 g2 hb hz hm
  obtain ⟨w4, r4, g4, t4, k4⟩ := g3.put 72 (.agg #[.int .i64 1, .func (.func 262) #[] #[Pt b]]) (by simp) _ rfl ⟨b, _, n3, hc, rfl, rfl⟩
  have m4 := m3.then t4 (by simp)
  clear hc n3
  go_wp2_with fail
  refine (always_made 168 _ lo s m 87 (by have := m4.size; omega)).mono ?_
  rintro e w5 ⟨v, rfl, hv, hm⟩
  have g5 := g4.far hm
  have m5 := m4.far hm
  clear m4 g4 hm
  obtain ⟨w6, r6, g6, t6, k6⟩ := g5.put 87 (v) (by simp) _ rfl hv
  have m6 := m5.then t6 (by simp)
  clear hv
  go_wp2_with fail
  refine (always_made 169 _ lo s m 88 (by have := m6.size; omega)).mono ?_
  rintro e w7 ⟨v, rfl, hv, hm⟩
  have g7 := g6.far hm
  have m7 := m6.far hm
  clear m6 g6 hm
  obtain ⟨w8, r8, g8, t8, k8⟩ := g7.put 88 (v) (by simp) _ rfl hv
  have m8 := m7.then t8 (by simp)
  clear hv
  go_wp2
  go_ret
  exact ⟨_, rfl, g8.iff (by intro n; simp only [or_false]; omega), m8, by omega⟩
set_option maxHeartbeats 4000000 in
set_option maxRecDepth 100000 in
theorem mem_made (w : World) (lo s m : Nat) (hlo : lo ≤ w.heap.size) (hs1 : w.cell? ⟨s, 1, none⟩ = some (Pt m)) : Calls Tryz.prog 77 #[Pt s] w (MadeM lo s m (fun n => 73 ≤ n ∧ n ≤ 81 ∨ n = 89 ∨ 100 ≤ n ∧ n ≤ 101) w) := by
  have hmm := @run_makeMap Tryz.prog
  have a0 := far_alloc w (.cells #[Pt s] 37)
  have c0 := cell_new w (Pt s) 37
  have z0 := size_alloc w (.cells #[Pt s] 37)
  have g0 := Grp.new (w.alloc (.cells #[Pt s] 37)) lo s m (by omega)
  have m0 := a0.far (far_alloc (w.alloc (.cells #[Pt s] 37)) (.map #[] 0))
  have b0 := (far_alloc (w.alloc (.cells #[Pt s] 37)) (.map #[] 0)).cell (x := ⟨w.heap.size, 0, none⟩) (by simp) c0
  rw [z0] at g0
  have d0 := m0.cell (x := ⟨s, 1, none⟩) (by simp) hs1
  go_enter Tryz.func77, Tryz.ntmps77
  go_wp2_with fail
  refine (ofcell_made 170 #[Pt m] #[] _).mono ?_
  rintro e w1 ⟨b, rfl, hb, hc, hm⟩
  have hz := m0.size
  have n1 : lo ≤ b := by omega
  have g1 := g0.far hm
  have m1 := m0.far hm
  have b1 := hm.cell (by simp) b0
  have d1 := hm.cell (by simp) d0
  clear m0 g0 hb hz hm b0 d0
  obtain ⟨w2, r2, g2, t2, k2⟩ := g1.put 73 (.agg #[.int .i64 1, .func (.func 262) #[] #[Pt b]]) (by simp) _ rfl ⟨b, _, n1, hc, rfl, rfl⟩
  have m2 := m1.then t2 (by simp)
  have b2 := k2 w.heap.size _ hlo b1
  have d2 := t2.cell (x := ⟨s, 1, none⟩) (by simp; have := World.block_lt_of_cell? _ _ hs1; have : s < w.heap.size := this; omega) d1
  clear hc n1
  obtain ⟨w3, r3, g3, t3, k3⟩ := g2.put 74 (.agg #[.int .i64 2, .func (.func 171) #[] #[Pt w.heap.size]]) (by simp) _ rfl ⟨w.heap.size, hlo, b2, rfl⟩
  have m3 := m2.then t3 (by simp)
  have b3 := k3 w.heap.size _ hlo b2
  have d3 := t3.cell (x := ⟨s, 1, none⟩) (by simp; have := World.block_lt_of_cell? _ _ hs1; have : s < w.heap.size := this; omega) d2
  go_wp2_with fail
  refine (ofcell_made 172 #[] #[Pt w.heap.size] _).mono ?_
  rintro e w4 ⟨b, rfl, hb, hc, hm⟩
  have hz := m3.size
  have n4 : lo ≤ b := by omega
  have g4 := g3.far hm
  have m4 := m3.far hm
  have b4 := hm.cell (by simp) b3
  have d4 := hm.cell (by simp) d3
  clear m3 g3 hb hz hm b3 d3
  obtain ⟨w5, r5, g5, t5, k5⟩ := g4.put 75 (.agg #[.int .i64 1, .func (.func 262) #[] #[Pt b]]) (by simp) _ rfl ⟨b, _, n4, hc, ⟨w.heap.size, hlo, b4, rfl⟩, rfl⟩
  have m5 := m4.then t5 (by simp)
  have b5 := k5 w.heap.size _ hlo b4
  have d5 := t5.cell (x := ⟨s, 1, none⟩) (by simp; have := World.block_lt_of_cell? _ _ hs1; have : s < w.heap.size := this; omega) d4
  clear hc n4
  obtain ⟨w6, r6, g6, t6, k6⟩ := g5.put 76 (.agg #[.int .i64 2, .func (.func 174) #[] #[Pt w.heap.size]]) (by simp) _ rfl ⟨w.heap.size, hlo, b5, rfl⟩
  have m6 := m5.then t6 (by simp)
  have b6 := k6 w.heap.size _ hlo b5
  have d6 := t6.cell (x := ⟨s, 1, none⟩) (by simp; have := World.block_lt_of_cell? _ _ hs1; have : s < w.heap.size := this; omega) d5
  obtain ⟨w7, r7, g7, t7, k7⟩ := g6.put 77 (.agg #[.int .i64 2, .func (.func 176) #[] #[Pt w.heap.size]]) (by simp) _ rfl ⟨w.heap.size, hlo, b6, rfl⟩
  have m7 := m6.then t7 (by simp)
  have b7 := k7 w.heap.size _ hlo b6
  have d7 := t7.cell (x := ⟨s, 1, none⟩) (by simp; have := World.block_lt_of_cell? _ _ hs1; have : s < w.heap.size := this; omega) d6
  obtain ⟨w8, r8, g8, t8, k8⟩ := g7.put 78 (.agg #[.int .i64 1, .func (.func 178) #[] #[Pt w.heap.size]]) (by simp) _ rfl ⟨w.heap.size, hlo, b7, rfl⟩
  have m8 := m7.then t8 (by simp)
  have b8 := k8 w.heap.size _ hlo b7
  have d8 := t8.cell (x := ⟨s, 1, none⟩) (by simp; have := World.block_lt_of_cell? _ _ hs1; have : s < w.heap.size := this; omega) d7
  obtain ⟨w9, r9, g9, t9, k9⟩ := g8.put 79 (.agg #[.int .i64 3, .func (.func 180) #[] #[Pt w.heap.size]]) (by simp) _ rfl ⟨w.heap.size, hlo, b8, rfl⟩
  have m9 := m8.then t9 (by simp)
  have b9 := k9 w.heap.size _ hlo b8
  have d9 := t9.cell (x := ⟨s, 1, none⟩) (by simp; have := World.block_lt_of_cell? _ _ hs1; have : s < w.heap.size := this; omega) d8
  obtain ⟨w10, r10, g10, t10, k10⟩ := g9.put 80 (.agg #[.int .i64 3, .func (.func 182) #[] #[Pt w.heap.size]]) (by simp) _ rfl ⟨w.heap.size, hlo, b9, rfl⟩
  have m10 := m9.then t10 (by simp)
  have b10 := k10 w.heap.size _ hlo b9
  have d10 := t10.cell (x := ⟨s, 1, none⟩) (by simp; have := World.block_lt_of_cell? _ _ hs1; have : s < w.heap.size := this; omega) d9
  obtain ⟨w11, r11, g11, t11, k11⟩ := g10.put 81 (.agg #[.int .i64 3, .func (.func 184) #[] #[Pt w.heap.size]]) (by simp) _ rfl ⟨w.heap.size, hlo, b10, rfl⟩
  have m11 := m10.then t11 (by simp)
  have b11 := k11 w.heap.size _ hlo b10
  have d11 := t11.cell (x := ⟨s, 1, none⟩) (by simp; have := World.block_lt_of_cell? _ _ hs1; have : s < w.heap.size := this; omega) d10
  obtain ⟨w12, r12, g12, t12, k12⟩ := g11.put 89 (.agg #[.int .i64 1, .func (.func 186) #[] #[Pt w.heap.size]]) (by simp) _ rfl ⟨w.heap.size, hlo, b11, rfl⟩
  have m12 := m11.then t12 (by simp)
  have b12 := k12 w.heap.size _ hlo b11
  have d12 := t12.cell (x := ⟨s, 1, none⟩) (by simp; have := World.block_lt_of_cell? _ _ hs1; have : s < w.heap.size := this; omega) d11
  obtain ⟨w13, r13, g13, t13, k13⟩ := g12.put 100 (.agg #[.int .i64 0, .func (.func 188) #[] #[Pt w.heap.size]]) (by simp) _ rfl ⟨w.heap.size, hlo, b12, rfl⟩
  have m13 := m12.then t13 (by simp)
  have b13 := k13 w.heap.size _ hlo b12
  have d13 := t13.cell (x := ⟨s, 1, none⟩) (by simp; have := World.block_lt_of_cell? _ _ hs1; have : s < w.heap.size := this; omega) d12
  obtain ⟨w14, r14, g14, t14, k14⟩ := g13.put 101 (.agg #[.int .i64 0, .func (.func 189) #[] #[Pt w.heap.size]]) (by simp) _ rfl ⟨w.heap.size, hlo, b13, rfl⟩
  have m14 := m13.then t14 (by simp)
  have b14 := k14 w.heap.size _ hlo b13
  have d14 := t14.cell (x := ⟨s, 1, none⟩) (by simp; have := World.block_lt_of_cell? _ _ hs1; have : s < w.heap.size := this; omega) d13
  go_wp2
  go_ret
  exact ⟨_, rfl, g14.iff (by intro n; simp only [or_false]; omega), m14, by omega⟩
set_option maxHeartbeats 4000000 in
set_option maxRecDepth 100000 in
theorem allot_made (w : World) (lo s m : Nat) (hlo : lo ≤ w.heap.size) : Calls Tryz.prog 78 #[Pt s] w (MadeM lo s m (fun n => 82 ≤ n ∧ n ≤ 86) w) := by
  have hmm := @run_makeMap Tryz.prog
  have a0 := far_alloc w (.cells #[Pt s] 37)
  have c0 := cell_new w (Pt s) 37
  have z0 := size_alloc w (.cells #[Pt s] 37)
  have g0 := Grp.new (w.alloc (.cells #[Pt s] 37)) lo s m (by omega)
  have m0 := a0.far (far_alloc (w.alloc (.cells #[Pt s] 37)) (.map #[] 0))
  have b0 := (far_alloc (w.alloc (.cells #[Pt s] 37)) (.map #[] 0)).cell (x := ⟨w.heap.size, 0, none⟩) (by simp) c0
  rw [z0] at g0
  obtain ⟨w1, r1, g1, t1, k1⟩ := g0.put 82 (.agg #[.int .i64 0, .func (.func 190) #[] #[Pt w.heap.size]]) (by simp) _ rfl ⟨w.heap.size, hlo, b0, rfl⟩
  have m1 := m0.then t1 (by simp)
  have b1 := k1 w.heap.size _ hlo b0
  obtain ⟨w2, r2, g2, t2, k2⟩ := g1.put 83 (.agg #[.int .i64 1, .func (.func 191) #[] #[Pt w.heap.size]]) (by simp) _ rfl ⟨w.heap.size, hlo, b1, rfl⟩
  have m2 := m1.then t2 (by simp)
  have b2 := k2 w.heap.size _ hlo b1
  obtain ⟨w3, r3, g3, t3, k3⟩ := g2.put 84 (.agg #[.int .i64 1, .func (.func 192) #[] #[Pt w.heap.size]]) (by simp) _ rfl ⟨w.heap.size, hlo, b2, rfl⟩
  have m3 := m2.then t3 (by simp)
  have b3 := k3 w.heap.size _ hlo b2
  obtain ⟨w4, r4, g4, t4, k4⟩ := g3.put 85 (.agg #[.int .i64 1, .func (.func 193) #[] #[Pt w.heap.size]]) (by simp) _ rfl ⟨w.heap.size, hlo, b3, rfl⟩
  have m4 := m3.then t4 (by simp)
  have b4 := k4 w.heap.size _ hlo b3
  obtain ⟨w5, r5, g5, t5, k5⟩ := g4.put 86 (.agg #[.int .i64 0, .func (.func 195) #[] #[Pt w.heap.size]]) (by simp) _ rfl ⟨w.heap.size, hlo, b4, rfl⟩
  have m5 := m4.then t5 (by simp)
  have b5 := k5 w.heap.size _ hlo b4
  go_enter Tryz.func78, Tryz.ntmps78
  go_wp2
  go_ret
  exact ⟨_, rfl, g5.iff (by intro n; simp only [or_false]; omega), m5, by omega⟩
set_option maxHeartbeats 4000000 in
set_option maxRecDepth 100000 in
theorem out_made (w : World) (lo s m : Nat) (hlo : lo ≤ w.heap.size) : Calls Tryz.prog 79 #[Pt s] w (MadeM lo s m (fun n => 90 ≤ n ∧ n ≤ 99) w) := by
  have hmm := @run_makeMap Tryz.prog
  have a0 := far_alloc w (.cells #[Pt s] 37)
  have c0 := cell_new w (Pt s) 37
  have z0 := size_alloc w (.cells #[Pt s] 37)
  have g0 := Grp.new (w.alloc (.cells #[Pt s] 37)) lo s m (by omega)
  have m0 := a0.far (far_alloc (w.alloc (.cells #[Pt s] 37)) (.map #[] 0))
  have b0 := (far_alloc (w.alloc (.cells #[Pt s] 37)) (.map #[] 0)).cell (x := ⟨w.heap.size, 0, none⟩) (by simp) c0
  rw [z0] at g0
  obtain ⟨w1, r1, g1, t1, k1⟩ := g0.put 90 (.agg #[.int .i64 1, .func (.func 197) #[] #[Pt w.heap.size]]) (by simp) _ rfl ⟨w.heap.size, hlo, b0, rfl⟩
  have m1 := m0.then t1 (by simp)
  have b1 := k1 w.heap.size _ hlo b0
  obtain ⟨w2, r2, g2, t2, k2⟩ := g1.put 91 (.agg #[.int .i64 1, .func (.func 200) #[] #[Pt w.heap.size]]) (by simp) _ rfl ⟨w.heap.size, hlo, b1, rfl⟩
  have m2 := m1.then t2 (by simp)
  have b2 := k2 w.heap.size _ hlo b1
  obtain ⟨w3, r3, g3, t3, k3⟩ := g2.put 92 (.agg #[.int .i64 1, .func (.func 202) #[] #[Pt w.heap.size]]) (by simp) _ rfl ⟨w.heap.size, hlo, b2, rfl⟩
  have m3 := m2.then t3 (by simp)
  have b3 := k3 w.heap.size _ hlo b2
  obtain ⟨w4, r4, g4, t4, k4⟩ := g3.put 93 (.agg #[.int .i64 2, .func (.func 203) #[] #[Pt w.heap.size]]) (by simp) _ rfl ⟨w.heap.size, hlo, b3, rfl⟩
  have m4 := m3.then t4 (by simp)
  have b4 := k4 w.heap.size _ hlo b3
  obtain ⟨w5, r5, g5, t5, k5⟩ := g4.put 94 (.agg #[.int .i64 1, .func (.func 205) #[] #[Pt w.heap.size]]) (by simp) _ rfl ⟨w.heap.size, hlo, b4, rfl⟩
  have m5 := m4.then t5 (by simp)
  have b5 := k5 w.heap.size _ hlo b4
  obtain ⟨w6, r6, g6, t6, k6⟩ := g5.put 95 (.agg #[.int .i64 0, .func (.func 207) #[] #[Pt w.heap.size]]) (by simp) _ rfl ⟨w.heap.size, hlo, b5, rfl⟩
  have m6 := m5.then t6 (by simp)
  have b6 := k6 w.heap.size _ hlo b5
  obtain ⟨w7, r7, g7, t7, k7⟩ := g6.put 96 (.agg #[.int .i64 0, .func (.func 208) #[] #[Pt w.heap.size]]) (by simp) _ rfl ⟨w.heap.size, hlo, b6, rfl⟩
  have m7 := m6.then t7 (by simp)
  have b7 := k7 w.heap.size _ hlo b6
  obtain ⟨w8, r8, g8, t8, k8⟩ := g7.put 97 (.agg #[.int .i64 1, .func (.func 209) #[] #[Pt w.heap.size]]) (by simp) _ rfl ⟨w.heap.size, hlo, b7, rfl⟩
  have m8 := m7.then t8 (by simp)
  have b8 := k8 w.heap.size _ hlo b7
  obtain ⟨w9, r9, g9, t9, k9⟩ := g8.put 98 (.agg #[.int .i64 2, .func (.func 211) #[] #[Pt w.heap.size]]) (by simp) _ rfl ⟨w.heap.size, hlo, b8, rfl⟩
  have m9 := m8.then t9 (by simp)
  have b9 := k9 w.heap.size _ hlo b8
  obtain ⟨w10, r10, g10, t10, k10⟩ := g9.put 99 (.agg #[.int .i64 0, .func (.func 213) #[] #[Pt w.heap.size]]) (by simp) _ rfl ⟨w.heap.size, hlo, b9, rfl⟩
  have m10 := m9.then t10 (by simp)
  have b10 := k10 w.heap.size _ hlo b9
  go_enter Tryz.func79, Tryz.ntmps79
  go_wp2
  go_ret
  exact ⟨_, rfl, g10.iff (by intro n; simp only [or_false]; omega), m10, by omega⟩
set_option maxHeartbeats 4000000 in
set_option maxRecDepth 100000 in
theorem text_made (w : World) (lo s m : Nat) (hlo : lo ≤ w.heap.size) : Calls Tryz.prog 80 #[Pt s] w (MadeM lo s m (fun n => 102 ≤ n ∧ n ≤ 107) w) := by
  have hmm := @run_makeMap Tryz.prog
  have a0 := far_alloc w (.cells #[Pt s] 37)
  have c0 := cell_new w (Pt s) 37
  have z0 := size_alloc w (.cells #[Pt s] 37)
  have g0 := Grp.new (w.alloc (.cells #[Pt s] 37)) lo s m (by omega)
  have m0 := a0.far (far_alloc (w.alloc (.cells #[Pt s] 37)) (.map #[] 0))
  have b0 := (far_alloc (w.alloc (.cells #[Pt s] 37)) (.map #[] 0)).cell (x := ⟨w.heap.size, 0, none⟩) (by simp) c0
  rw [z0] at g0
  obtain ⟨w1, r1, g1, t1, k1⟩ := g0.put 102 (.agg #[.int .i64 0, .func (.func 215) #[] #[Pt w.heap.size]]) (by simp) _ rfl ⟨w.heap.size, hlo, b0, rfl⟩
  have m1 := m0.then t1 (by simp)
  have b1 := k1 w.heap.size _ hlo b0
  obtain ⟨w2, r2, g2, t2, k2⟩ := g1.put 103 (.agg #[.int .i64 2, .func (.func 217) #[] #[Pt w.heap.size]]) (by simp) _ rfl ⟨w.heap.size, hlo, b1, rfl⟩
  have m2 := m1.then t2 (by simp)
  have b2 := k2 w.heap.size _ hlo b1
  obtain ⟨w3, r3, g3, t3, k3⟩ := g2.put 104 (.agg #[.int .i64 2, .func (.func 219) #[] #[Pt w.heap.size]]) (by simp) _ rfl ⟨w.heap.size, hlo, b2, rfl⟩
  have m3 := m2.then t3 (by simp)
  have b3 := k3 w.heap.size _ hlo b2
  obtain ⟨w4, r4, g4, t4, k4⟩ := g3.put 105 (.agg #[.int .i64 1, .func (.func 221) #[] #[Pt w.heap.size]]) (by simp) _ rfl ⟨w.heap.size, hlo, b3, rfl⟩
  have m4 := m3.then t4 (by simp)
  have b4 := k4 w.heap.size _ hlo b3
  obtain ⟨w5, r5, g5, t5, k5⟩ := g4.put 106 (.agg #[.int .i64 1, .func (.func 223) #[] #[Pt w.heap.size]]) (by simp) _ rfl ⟨w.heap.size, hlo, b4, rfl⟩
  have m5 := m4.then t5 (by simp)
  have b5 := k5 w.heap.size _ hlo b4
  obtain ⟨w6, r6, g6, t6, k6⟩ := g5.put 107 (.agg #[.int .i64 2, .func (.func 225) #[] #[Pt w.heap.size]]) (by simp) _ rfl ⟨w.heap.size, hlo, b5, rfl⟩
  have m6 := m5.then t6 (by simp)
  have b6 := k6 w.heap.size _ hlo b5
  go_enter Tryz.func80, Tryz.ntmps80
  go_wp2
  go_ret
  exact ⟨_, rfl, g6.iff (by intro n; simp only [or_false]; omega), m6, by omega⟩
end Go.Proofs.YtifnkmddinoneaaGreatDoor
namespace Go.Proofs.YtifnkmddinoneaaGreatDoor
open Go.RowKit
set_option linter.unusedVariables false

def intV : Value → Int
  | .int _ n => n
  | _ => 0
theorem step_of {w wr : World} {lo s m M : Nat} {D : Int → Prop} (g : Grp wr lo s m M D) (hm : Mod [] w wr) (hM : w.heap.size ≤ M) (k : Int) (hk : ¬ D k) (S : Shp) (hS : shp s k = some S) (D' : Int → Prop) (hD : ∀ n, (n = k ∨ D n) ↔ D' n) :
    ∀ e w1, MadeS lo s m k S wr e w1 → ∃ v w2, e = .returned v ∧ (Instr.mapUpdate 96 (.map (some M)) (.int .i64 k) v).run Tryz.prog w1 = .ok () w2 ∧ Grp w2 lo s m M D' ∧ Mod [] w w2 := by
  intro e w1 ⟨v, he, hv, hmv⟩
  obtain ⟨w2, r, g2, t2, _⟩ := (g.far hmv).put k v hk S hS hv
  exact ⟨v, w2, he, r, g2.iff hD, (hm.far hmv).then t2 (by simpa using hM)⟩
theorem copied {w wr : World} {lo s m M : Nat} {D E : Int → Prop} (g : Grp wr lo s m M D) (hm : Mod [] w wr) (hM : w.heap.size ≤ M) (hDE : ∀ n, E n → ¬ D n) {e : Ending} {w1 : World} (h : MadeM lo s m E wr e w1) :
    ∃ N, e = .returned (.map (some N)) ∧ Mod [] wr w1 ∧ Calls Tryz.prog 74 #[.map (some M), .map (some N)] w1 fun e w' => e = .returned (.tuple #[]) ∧ Grp w' lo s m M (fun n => D n ∨ E n) ∧ Mod [] w w' := by
  obtain ⟨N, he, gN, hm1, hN⟩ := h
  refine ⟨N, he, hm1, ((g.far hm1).copy gN (by have := g.lt; omega) hDE).mono ?_⟩
  rintro e w' ⟨h1, h2, h3⟩
  exact ⟨h1, h2, (hm.far hm1).then h3 (by simpa using hM)⟩
set_option maxHeartbeats 4000000 in
set_option maxRecDepth 100000 in
theorem allops_made (w : World) (lo s m : Nat) (hlo : lo ≤ w.heap.size) (hs1 : w.cell? ⟨s, 1, none⟩ = some (Pt m)) :
    Calls Tryz.prog 48 #[Pt s] w (MadeM lo s m (fun n => 1 ≤ n ∧ n ≤ 107) w) := by
  have hmm := @run_makeMap Tryz.prog
  have g0 := Grp.new w lo s m hlo
  have m0 := far_alloc w (.map #[] 0)
  obtain ⟨M, hM⟩ : ∃ M, M = w.heap.size := ⟨_, rfl⟩
  rw [← hM] at g0
  have HM := Lib.hid (Nat.le_of_eq hM.symm)
  have HS1 := Lib.hid hs1
  clear hs1
  go_enter Tryz.func48, Tryz.ntmps48
  go_wp2_with fail
  rw [← hM]
  clear hM
  have G0 := Lib.hid (And.intro (g0.iff (D' := fun n => 1 ≤ n ∧ n < 1) (by intro n; exact ⟨False.elim, fun h => by omega⟩)) m0)
  clear g0 m0 hmm
  go_loopw [4] (fun z wr => ∃ k : Int, z = .int .i64 k ∧ 1 ≤ k ∧ k ≤ 28 ∧ RowKit.Hid (Grp wr lo s m M (fun n => 1 ≤ n ∧ n < k) ∧ Mod [] w wr)) (fun z _ => (28 - intV z).toNat)
  case atStart => exact ⟨1, rfl, by omega, by omega, G0⟩
  case round =>
  obtain ⟨k, rfl, hk1, hk2, g⟩ := hrel
  clear G0
  by_cases hlt : k < 28
  · have hsz := g.out.2.size
    have hc : Calls Tryz.prog 71 #[.int .i64 k] wr (fun e w1 => ∃ v w2, e = .returned v ∧ (Instr.mapUpdate 96 (.map (some M)) (.int .i64 k) v).run Tryz.prog w1 = .ok () w2 ∧ Grp w2 lo s m M (fun n => 1 ≤ n ∧ n < k + 1) ∧ Mod [] w w2) := by
      have HS := fun S hS => step_of g.out.1 g.out.2 HM.out k (by omega) S hS (fun n => 1 ≤ n ∧ n < k + 1) (by intro n; omega)
      by_cases h10 : k ≤ 10
      · exact (cellop1_made k ⟨hk1, h10⟩ wr lo s m k (by omega)).mono (HS _ (by unfold shp; rw [if_pos ⟨hk1, h10⟩]))
      · exact (cellop2_made k ⟨by omega, by omega⟩ wr lo s m k (by omega)).mono (HS _ (by unfold shp; rw [if_neg (by omega), if_pos ⟨by omega, by omega⟩]))
    have HC := Lib.hid hc
    clear hc
    go_wp2_with fail
    refine HC.out.mono ?_
    rintro e w1 ⟨v, w2, rfl, r, g2, hm2⟩
    clear HC g
    have HG := Lib.hid (And.intro g2 hm2)
    clear g2 hm2
    go_wp2_with fail
    go_roundw
    case rel => exact ⟨k + 1, rfl, by omega, by omega, HG⟩
    case measure => simp only [intV]; omega
  · obtain rfl : k = 28 := by omega
    clear hk1 hk2 hlt
    go_wp2_with fail
    have G1 := g
    clear g
    go_loopw [5] (fun z wr => ∃ k : Int, z = .int .i64 k ∧ 28 ≤ k ∧ k ≤ 43 ∧ RowKit.Hid (Grp wr lo s m M (fun n => 1 ≤ n ∧ n < k) ∧ Mod [] w wr)) (fun z _ => (43 - intV z).toNat)
    case atStart => exact ⟨28, rfl, by omega, by omega, G1⟩
    case round =>
    obtain ⟨k, rfl, hk1, hk2, g⟩ := hrel
    clear G1
    by_cases hlt : k < 43
    · have hsz := g.out.2.size
      have hc : Calls Tryz.prog 72 #[Pt s, .int .i64 k] wr (fun e w1 => ∃ v w2, e = .returned v ∧ (Instr.mapUpdate 96 (.map (some M)) (.int .i64 k) v).run Tryz.prog w1 = .ok () w2 ∧ Grp w2 lo s m M (fun n => 1 ≤ n ∧ n < k + 1) ∧ Mod [] w w2) := by
        have HS := fun S hS => step_of g.out.1 g.out.2 HM.out k (by omega) S hS (fun n => 1 ≤ n ∧ n < k + 1) (by intro n; omega)
        exact (stackop_made s k wr lo m (by omega)).mono (HS _ (by unfold shp; rw [if_neg (by omega), if_neg (by omega), if_pos ⟨by omega, by omega⟩]))
      have HC := Lib.hid hc
      clear hc
      go_wp2_with fail
      refine HC.out.mono ?_
      rintro e w1 ⟨v, w2, rfl, r, g2, hm2⟩
      clear HC g
      have HG := Lib.hid (And.intro g2 hm2)
      clear g2 hm2
      go_wp2_with fail
      go_roundw
      case rel => exact ⟨k + 1, rfl, by omega, by omega, HG⟩
      case measure => simp only [intV]; omega
    · obtain rfl : k = 43 := by omega
      clear hk1 hk2 hlt
      go_wp2_with fail
      have G2 := g
      clear g
      have G2a := Lib.hid (And.intro (G2.out.1.iff (D' := fun n => 1 ≤ n ∧ n < 43 ∨ 61 ≤ n ∧ n < 61) (by intro n; omega)) G2.out.2)
      clear G2
      go_loopw [6] (fun z wr => ∃ k : Int, z = .int .i64 k ∧ 61 ≤ k ∧ k ≤ 71 ∧ RowKit.Hid (Grp wr lo s m M (fun n => 1 ≤ n ∧ n < 43 ∨ 61 ≤ n ∧ n < k) ∧ Mod [] w wr)) (fun z _ => (71 - intV z).toNat)
      case atStart => exact ⟨61, rfl, by omega, by omega, G2a⟩
      case round =>
      obtain ⟨k, rfl, hk1, hk2, g⟩ := hrel
      clear G2a
      by_cases hlt : k ≤ 70
      · have hsz := g.out.2.size
        have hc : Calls Tryz.prog 73 #[.int .i64 (k - 60)] wr (fun e w1 => ∃ v w2, e = .returned v ∧ (Instr.mapUpdate 96 (.map (some M)) (.int .i64 k) v).run Tryz.prog w1 = .ok () w2 ∧ Grp w2 lo s m M (fun n => 1 ≤ n ∧ n < 43 ∨ 61 ≤ n ∧ n < k + 1) ∧ Mod [] w w2) := by
          have HS := fun S hS => step_of g.out.1 g.out.2 HM.out k (by omega) S hS (fun n => 1 ≤ n ∧ n < 43 ∨ 61 ≤ n ∧ n < k + 1) (by intro n; omega)
          by_cases h62 : k ≤ 62
          · rcases (show k = 61 ∨ k = 62 by omega) with rfl | rfl
            · exact (realop1_1 1 ⟨by omega, by omega⟩ wr lo s m 61 (by omega)).mono (HS _ rfl)
            · exact (realop1_2 2 ⟨by omega, by omega⟩ wr lo s m 62 (by omega)).mono (HS _ rfl)
          · exact (realop2_made (k - 60) ⟨by omega, by omega⟩ wr lo s m k (by omega)).mono (HS _ (by unfold shp; rw [if_neg (by omega), if_neg (by omega), if_neg (by omega), if_neg (by omega), if_pos ⟨by omega, by omega⟩]))
        have hk60 : k - 61 + 1 = k - 60 := by omega
        have HC := Lib.hid hc
        clear hc
        go_wp2_with fail
        refine HC.out.mono ?_
        rintro e w1 ⟨v, w2, rfl, r, g2, hm2⟩
        clear HC g
        have HG := Lib.hid (And.intro g2 hm2)
        clear g2 hm2
        go_wp2_with fail
        go_roundw
        case rel => exact ⟨k + 1, rfl, by omega, by omega, HG⟩
        case measure => simp only [intV]; omega
      · obtain rfl : k = 71 := by omega
        clear hk1 hk2 hlt
        go_wp2_with fail
        have G3 := g
        clear g
        have hz0 := G3.out.2.size
        refine (pairs_made _ lo s m (by omega)).mono ?_
        intro e w0 hmade
        obtain ⟨N0, rfl, _, hcp⟩ := copied G3.out.1 G3.out.2 HM.out (by intro n; omega) hmade
        have HC := Lib.hid hcp
        clear hcp hmade
        go_wp2_with fail
        refine HC.out.mono ?_
        rintro e v0 ⟨rfl, g, hm⟩
        have H0 := Lib.hid (And.intro g hm)
        clear g hm HC G3 hz0
        go_wp2_with fail
        have hz1 := H0.out.2.size
        refine (conv_made _ lo s m (by omega)).mono ?_
        intro e w1 hmade
        obtain ⟨N1, rfl, _, hcp⟩ := copied H0.out.1 H0.out.2 HM.out (by intro n; omega) hmade
        have HC := Lib.hid hcp
        clear hcp hmade
        go_wp2_with fail
        refine HC.out.mono ?_
        rintro e v1 ⟨rfl, g, hm⟩
        have H1 := Lib.hid (And.intro g hm)
        clear g hm HC H0 hz1
        go_wp2_with fail
        have hz2 := H1.out.2.size
        refine (mem_made _ lo s m (by omega) (H1.out.2.cell (by simp) HS1.out)).mono ?_
        intro e w2 hmade
        obtain ⟨N2, rfl, _, hcp⟩ := copied H1.out.1 H1.out.2 HM.out (by intro n; omega) hmade
        have HC := Lib.hid hcp
        clear hcp hmade
        go_wp2_with fail
        refine HC.out.mono ?_
        rintro e v2 ⟨rfl, g, hm⟩
        have H2 := Lib.hid (And.intro g hm)
        clear g hm HC H1 hz2
        go_wp2_with fail
        have hz3 := H2.out.2.size
        refine (allot_made _ lo s m (by omega)).mono ?_
        intro e w3 hmade
        obtain ⟨N3, rfl, _, hcp⟩ := copied H2.out.1 H2.out.2 HM.out (by intro n; omega) hmade
        have HC := Lib.hid hcp
        clear hcp hmade
        go_wp2_with fail
        refine HC.out.mono ?_
        rintro e v3 ⟨rfl, g, hm⟩
        have H3 := Lib.hid (And.intro g hm)
        clear g hm HC H2 hz3
        go_wp2_with fail
        have hz4 := H3.out.2.size
        refine (out_made _ lo s m (by omega)).mono ?_
        intro e w4 hmade
        obtain ⟨N4, rfl, _, hcp⟩ := copied H3.out.1 H3.out.2 HM.out (by intro n; omega) hmade
        have HC := Lib.hid hcp
        clear hcp hmade
        go_wp2_with fail
        refine HC.out.mono ?_
        rintro e v4 ⟨rfl, g, hm⟩
        have H4 := Lib.hid (And.intro g hm)
        clear g hm HC H3 hz4
        go_wp2_with fail
        have hz5 := H4.out.2.size
        refine (text_made _ lo s m (by omega)).mono ?_
        intro e w5 hmade
        obtain ⟨N5, rfl, _, hcp⟩ := copied H4.out.1 H4.out.2 HM.out (by intro n; omega) hmade
        have HC := Lib.hid hcp
        clear hcp hmade
        go_wp2_with fail
        refine HC.out.mono ?_
        rintro e v5 ⟨rfl, g, hm⟩
        have H5 := Lib.hid (And.intro g hm)
        clear g hm HC H4 hz5
        go_wp2_with fail
        go_ret
        exact ⟨_, rfl, H5.out.1.iff (by intro n; omega), H5.out.2, HM.out⟩
end Go.Proofs.YtifnkmddinoneaaGreatDoor
