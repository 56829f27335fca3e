/- Layer 15: an engine in memory: its own block, its three rows, its three maps, its state, frames and input, all apart. No condition. Layer 15: the calls of the stack, the frames and the input, as an engine that holds them sees them. Condition: the block is an engine (Eg). Layer 15: an engine's place and next word, set; its stack, push, Throw and after. Condition: the block is an engine (Eg). Layer 15: words and definitions that an engine has, looked up. Condition: the block is an engine (Eg). -/
import Derived.Test.YtifnkmddinoneaaGreatDoorCBAQ
import Derived.Test.YtifnkmddinoneaaGreatDoorCBAU
import Derived.Test.YtifnkmddinoneaaGreatDoorCBAC
import Derived.Test.YtifnkmddinoneaaGreatDoorCBAN
import Derived.Deep.Cut
import Derived.Deep.DeepCutAuto
import Derived.Deep.QuietTactic
import Derived.BigQuiet
import Derived.Deep.RegionHeld3
set_option maxRecDepth 100000
namespace Go.Proofs.YtifnkmddinoneaaGreatDoor
open Go.RowKit
set_option linter.unusedVariables false

/-- Where its parts lie. -/
structure Ag where
  g : Nat
  a : Ad
  f : Nat
  p : Nat
  M1 : Nat
  M2 : Nat
  M3 : Nat
structure Vr where
  p : Value
  e : Value
  w : Value
def Vr.bs (v : Vr) : List Nat := v.p.ownBlock.toList ++ (v.e.ownBlock.toList ++ v.w.ownBlock.toList)
def Ow15 (A : Ag) (v : Vr) : List Nat := A.g :: v.bs
def packX (x : L10.Xi) : Int := x.a * 256 + (x.op : Int)
def flatX (x : L10.Xi) : List Value := [.int .i64 (packX x), .int .i64 x.w]
def flatXs (L : List L10.Xi) : List Value := L.flatMap flatX
def flatW (x : Wd) : List Value := [.int .i64 x.k, .int .i64 x.n, .int .i64 x.w]
def flatWs (L : List Wd) : List Value := L.flatMap flatW
def endsL (D : List (List L10.Xi)) : List Int := (List.range D.length).map fun k => ((D.take (k + 1)).flatten.length : Int)
theorem flatXs_len (L : List L10.Xi) : (flatXs L).length = L.length * 2 := by
  induction L with
  | nil => rfl
  | cons x r ih => simp only [flatXs, List.flatMap_cons, List.length_append] at ih ⊢; rw [ih]; simp [flatX]; omega
theorem flatWs_len (L : List Wd) : (flatWs L).length = L.length * 3 := by
  induction L with
  | nil => rfl
  | cons x r ih => simp only [flatWs, List.flatMap_cons, List.length_append] at ih ⊢; rw [ih]; simp [flatW]; omega
theorem flatXs_app (A B : List L10.Xi) : flatXs (A ++ B) = flatXs A ++ flatXs B := by simp [flatXs]
theorem flatWs_app (A B : List Wd) : flatWs (A ++ B) = flatWs A ++ flatWs B := by simp [flatWs]
theorem flatX_get (B : List L10.Xi) (x : L10.Xi) (C : List L10.Xi) (k : Nat) (hk : k < 2) : (flatXs (B ++ x :: C))[B.length * 2 + k]? = (flatX x)[k]? := by
  have e : flatXs (B ++ x :: C) = flatXs B ++ (flatX x ++ flatXs C) := by simp [flatXs]
  rw [e, List.getElem?_append_right (by rw [flatXs_len]; omega), flatXs_len, Nat.add_sub_cancel_left, List.getElem?_append_left (by simp [flatX]; omega)]
theorem flatW_get (B : List Wd) (x : Wd) (C : List Wd) (k : Nat) (hk : k < 3) : (flatWs (B ++ x :: C))[B.length * 3 + k]? = (flatW x)[k]? := by
  have e : flatWs (B ++ x :: C) = flatWs B ++ (flatW x ++ flatWs C) := by simp [flatWs]
  rw [e, List.getElem?_append_right (by rw [flatWs_len]; omega), flatWs_len, Nat.add_sub_cancel_left, List.getElem?_append_left (by simp [flatW]; omega)]
def OkX (x : L10.Xi) : Prop := 1 ≤ x.op ∧ x.op ≤ 15 ∧ 0 ≤ x.a ∧ x.a ≤ 1000 ∧ I64 x.w
def OkW (x : Wd) : Prop := 1 ≤ x.k ∧ x.k ≤ 9 ∧ I64 x.n ∧ I64 x.w ∧ (x.k = 2 → 1 ≤ x.n ∧ x.n ≤ 9)
def OkF (q : L14.Fm) : Prop := I64 q.a ∧ I64 q.b ∧ I64 q.x ∧ I64 q.y ∧ (∀ l ∈ q.l, I64 l)
structure OkE (E : Es) : Prop where
  x : ∀ l ∈ E.D, (∀ x ∈ l, OkX x) ∧ 1 ≤ l.length ∧ l.length ≤ 500
  w : ∀ x ∈ E.W, OkW x
  f : ∀ q ∈ E.F, OkF q
  d : E.D.length ≤ 300
  wl : E.W.length ≤ 600
  di : I64 E.d ∧ I64 E.i ∧ I64 E.nx
structure Eown (w : World) (A : Ag) (v : Vr) (E : Es) : Prop where
  c0 : w.cell? ⟨A.g, 0, none⟩ = some v.p
  c1 : w.cell? ⟨A.g, 1, none⟩ = some v.e
  c2 : w.cell? ⟨A.g, 2, none⟩ = some v.w
  c3 : w.cell? ⟨A.g, 3, none⟩ = some (Pt A.a.s)
  c4 : w.cell? ⟨A.g, 4, none⟩ = some (Pt A.p)
  c5 : w.cell? ⟨A.g, 5, none⟩ = some (Pt A.f)
  c6 : w.cell? ⟨A.g, 6, none⟩ = some (.int .i64 E.d)
  c7 : w.cell? ⟨A.g, 7, none⟩ = some (.int .i64 E.i)
  c8 : w.cell? ⟨A.g, 8, none⟩ = some (.int .i64 E.nx)
  c9 : w.cell? ⟨A.g, 9, none⟩ = some (.map (some A.M1))
  c10 : w.cell? ⟨A.g, 10, none⟩ = some (.map (some A.M2))
  c11 : w.cell? ⟨A.g, 11, none⟩ = some (.map (some A.M3))
  f : ∀ i, w.frozen? ⟨A.g, i, none⟩ = false
  lg : A.g < w.heap.size
  rp : w.ownsRow 0 133 2 v.p E.D.flatten.length (flatXs E.D.flatten)
  re : w.ownsRow 0 3 1 v.e E.D.length ((endsL E.D).map (Value.int .i64))
  rw : w.ownsRow 0 35 3 v.w E.W.length (flatWs E.W)
  sep : (Ow15 A v).Nodup
theorem mem_Ow15 {A : Ag} {v : Vr} {x : Nat} : x ∈ Ow15 A v ↔ x = A.g ∨ v.p.ownBlock = some x ∨ v.e.ownBlock = some x ∨ v.w.ownBlock = some x := by
  simp [Ow15, Vr.bs]
section
variable {w w' : World} {A : Ag} {v : Vr} {E : Es} {S T : List Nat}
theorem Eown.lt (h : Eown w A v E) : ∀ x ∈ Ow15 A v, x < w.heap.size := fun x hx => by
  rcases mem_Ow15.1 hx with rfl | e | e | e
  · exact h.lg
  · exact (World.ownsRow.lt h.rp x e).2
  · exact (World.ownsRow.lt h.re x e).2
  · exact (World.ownsRow.lt h.rw x e).2
theorem Eown.mod (h : Eown w A v E) (k : Mod S w w') (hS : ∀ x ∈ Ow15 A v, x ∉ S) : Eown w' A v E := by
  have hg : A.g ∉ S := hS _ (mem_Ow15.2 (Or.inl rfl))
  exact ⟨k.cell hg h.c0, k.cell hg h.c1, k.cell hg h.c2, k.cell hg h.c3, k.cell hg h.c4, k.cell hg h.c5, k.cell hg h.c6, k.cell hg h.c7, k.cell hg h.c8, k.cell hg h.c9, k.cell hg h.c10, k.cell hg h.c11, fun i => (k.frozen (x := ⟨A.g, i, none⟩) hg h.lg).trans (h.f i), Nat.lt_of_lt_of_le h.lg k.size, L14.row_mod h.rp k fun g e => hS g (mem_Ow15.2 (Or.inr (Or.inl e))), L14.row_mod h.re k fun g e => hS g (mem_Ow15.2 (Or.inr (Or.inr (Or.inl e)))), L14.row_mod h.rw k fun g e => hS g (mem_Ow15.2 (Or.inr (Or.inr (Or.inr e)))), h.sep⟩
theorem Eown.as (h : Eown w A v E) {E' : Es} (h1 : E'.W = E.W) (h2 : E'.D = E.D) (h3 : E'.d = E.d) (h4 : E'.i = E.i) (h5 : E'.nx = E.nx) : Eown w A v E' := by
  exact ⟨h.c0, h.c1, h.c2, h.c3, h.c4, h.c5, h3 ▸ h.c6, h4 ▸ h.c7, h5 ▸ h.c8, h.c9, h.c10, h.c11, h.f, h.lg, by rw [h2]; exact h.rp, by rw [h2]; exact h.re, by rw [h1]; exact h.rw, h.sep⟩
end
def mval (F : FuncId) (g : Nat) : Value := .func (.func F) #[Pt g] #[]
def ctlF (n : Nat) : Option FuncId := [none, some 82, some 83, some 84, some 85, some 86, some 87, some 88, some 89, some 90].getD n none
def insF (n : Nat) : Option FuncId := [none, some 91, some 92, some 93, some 94, some 95, some 96, some 97, some 98, some 99, some 100, some 101, some 102, some 103, some 104, some 105].getD n none
def manyF (n : Int) : Int := if n = 1 then 107 else if n = 2 then 9 else if n = 3 then 17 else if n = 4 then 47 else 0
structure Maps (w : World) (A : Ag) : Prop where
  m1 : ∃ f, MapV w A.M1 f ∧ ∀ n, (f n).getD (.int .i64 0) = .int .i64 (manyF n)
  m2 : ∃ f, MapV w A.M2 f ∧ ∀ (n : Nat) F, ctlF n = some F → f n = some (mval F A.g)
  m3 : ∃ f, MapU w A.M3 f ∧ ∀ (n : Nat) F, insF n = some F → f n = some (mval F A.g)
theorem Maps.lt {w : World} {A : Ag} (h : Maps w A) : A.M1 < w.heap.size ∧ A.M2 < w.heap.size ∧ A.M3 < w.heap.size := by
  obtain ⟨⟨f, h1, _⟩, ⟨g, h2, _⟩, ⟨k, h3, _⟩⟩ := h
  exact ⟨h1.lt, h2.lt, h3.lt⟩
theorem Maps.mod {w w' : World} {A : Ag} {S : List Nat} (h : Maps w A) (k : Mod S w w') (hS : ∀ x ∈ S, x ≠ A.M1 ∧ x ≠ A.M2 ∧ x ≠ A.M3) : Maps w' A := by
  obtain ⟨⟨f, h1, e1⟩, ⟨g, h2, e2⟩, ⟨j, h3, e3⟩⟩ := h
  exact ⟨⟨f, h1.mod k fun hx => (hS _ hx).1 rfl, e1⟩, ⟨g, h2.mod k fun hx => (hS _ hx).2.1 rfl, e2⟩, ⟨j, h3.mod k fun hx => (hS _ hx).2.2 rfl, e3⟩⟩
def Fre (A : Ag) (x : Nat) : Prop := (x < A.a.lo ∨ A.a.hi ≤ x) ∧ 6 ≤ x ∧ x ≠ A.M1 ∧ x ≠ A.M2 ∧ x ≠ A.M3
def Apt (X Y : List Nat) : Prop := ∀ x ∈ X, x ∉ Y
structure EgV (w : World) (A : Ag) (v : Vr) (Ts Tf Ti T : List Nat) (E : Es) : Prop where
  own : Eown w A v E
  st : Stt w A.a Ts E.C E.μ
  fr : L14.Fr L14.TP w A.f Tf E.F
  inp : L8.Inp w A.p Ti E.I E.M
  ok : OkE E
  mp : Maps w A
  os : Apt (Ow15 A v) Ts
  of : Apt (Ow15 A v) Tf
  oi : Apt (Ow15 A v) Ti
  sf : Apt Ts Tf
  si : Apt Ts Ti
  fi : Apt Tf Ti
  sub : ∀ x, (x ∈ Ow15 A v ∨ x ∈ Ts ∨ x ∈ Tf ∨ x ∈ Ti) → x ∈ T
  tl : ∀ x ∈ T, x < w.heap.size
  bx : ∀ x ∈ T, Fre A x
section
variable {w w' : World} {A : Ag} {v : Vr} {E : Es} {Ts Tf Ti S T : List Nat}
theorem EgV.other (h : EgV w A v Ts Tf Ti T E) (k : Mod S w w') (hS : ∀ x ∈ S, x ∉ T) (hb : ∀ x ∈ S, Fre A x) : EgV w' A v Ts Tf Ti T E :=
  ⟨h.own.mod k fun x hx hs => hS x hs (h.sub x (Or.inl hx)), h.st.other k (fun x hs hx => hS x hs (h.sub x (Or.inr (Or.inl hx)))) (fun x hs => (hb x hs).1) (fun x hs => (hb x hs).2.1), h.fr.mod k fun x hx hs => hS x hs (h.sub x (Or.inr (Or.inr (Or.inl hx)))), h.inp.mod k fun x hx hs => hS x hs (h.sub x (Or.inr (Or.inr (Or.inr hx)))), h.ok, h.mp.mod k fun x hs => (hb x hs).2.2, h.os, h.of, h.oi, h.sf, h.si, h.fi, h.sub, fun x hx => Nat.lt_of_lt_of_le (h.tl x hx) k.size, h.bx⟩
theorem EgV.far (h : EgV w A v Ts Tf Ti T E) (k : Mod [] w w') : EgV w' A v Ts Tf Ti T E := h.other k (by simp) (by simp)
theorem EgV.fre_new (h : EgV w A v Ts Tf Ti T E) {x : Nat} (hx : w.heap.size ≤ x) : Fre A x := by
  have h1 := h.st.hi
  have h2 := h.st.good.big
  have h3 := h.mp.lt
  refine ⟨Or.inr (by omega), by omega, by omega, by omega, by omega⟩
theorem app_lt {X Y : List Nat} {a b : Nat} (h : ∀ x ∈ X, x < a) (hab : a ≤ b) (k : ∀ x ∈ Y, x < b) : ∀ x ∈ X ++ Y, x < b := fun x hx => (List.mem_append.1 hx).elim (fun e => Nat.lt_of_lt_of_le (h x e) hab) (k x)
theorem Apt.turn {X Y Y' : List Nat} (h : Apt X Y) {n : Nat} (hX : ∀ x ∈ X, x < n) (hY : ∀ x ∈ Y', x ∈ Y ∨ n ≤ x) : Apt X Y' := fun x hx hy => (hY x hy).elim (h x hx) fun e => by have := hX x hx; omega
theorem Apt.flip {X Y : List Nat} (h : Apt X Y) : Apt Y X := fun x hy hx => h x hx hy
theorem EgV.state (h : EgV w A v Ts Tf Ti T E) {Ts' : List Nat} {C' : List Int} {μ' : Mu} (tn : Tn Ts Ts' w w') (hs : Stt w' A.a Ts' C' μ') : EgV w' A v Ts' Tf Ti (T ++ Ts') { E with C := C', μ := μ' } ∧ Tn T (T ++ Ts') w w' := by
  have hTs : ∀ x ∈ Ts, x ∈ T := fun x hx => h.sub x (Or.inr (Or.inl hx))
  have hO := h.own.lt
  have hF := h.fr.lt
  have hI := h.inp.lt
  refine ⟨⟨(h.own.mod tn.m h.os).as rfl rfl rfl rfl rfl, hs, h.fr.mod tn.m fun x hx hs => h.sf x hs hx, h.inp.mod tn.m fun x hx hs => h.si x hs hx, ⟨h.ok.x, h.ok.w, h.ok.f, h.ok.d, h.ok.wl, h.ok.di⟩, h.mp.mod tn.m fun x hx => (h.bx x (hTs x hx)).2.2, h.os.turn hO tn.new, h.of, h.oi, (h.sf.flip.turn hF tn.new).flip, (h.si.flip.turn hI tn.new).flip, h.fi, fun x hx => List.mem_append.2 ?_, app_lt h.tl tn.m.size hs.tl, fun x hx => ?_⟩, ⟨tn.m.up hTs, fun x hx => List.mem_append.2 (Or.inl hx), fun x hx => (List.mem_append.1 hx).elim Or.inl fun e => (tn.new x e).imp (hTs x) id⟩⟩
  · rcases hx with hx | hx | hx | hx
    · exact Or.inl (h.sub x (Or.inl hx))
    · exact Or.inr hx
    · exact Or.inl (h.sub x (Or.inr (Or.inr (Or.inl hx))))
    · exact Or.inl (h.sub x (Or.inr (Or.inr (Or.inr hx))))
  · rcases List.mem_append.1 hx with e | e
    · exact h.bx x e
    · exact (tn.new x e).elim (fun e => h.bx x (hTs x e)) h.fre_new
theorem EgV.frames (h : EgV w A v Ts Tf Ti T E) {Tf' : List Nat} {F' : List L14.Fm} (tn : L14.Turn Tf Tf' w w') (hs : L14.Fr L14.TP w' A.f Tf' F') (ho : ∀ q ∈ F', OkF q) : EgV w' A v Ts Tf' Ti (T ++ Tf') { E with F := F' } ∧ Tn T (T ++ Tf') w w' := by
  have hTf : ∀ x ∈ Tf, x ∈ T := fun x hx => h.sub x (Or.inr (Or.inr (Or.inl hx)))
  have hO := h.own.lt
  have hS := h.st.tl
  have hI := h.inp.lt
  refine ⟨⟨(h.own.mod tn.1 h.of).as rfl rfl rfl rfl rfl, h.st.other tn.1 (fun x hs hx => h.sf x hx hs) (fun x hx => (h.bx x (hTf x hx)).1) (fun x hx => (h.bx x (hTf x hx)).2.1), hs, h.inp.mod tn.1 fun x hx hs => h.fi x hs hx, ⟨h.ok.x, h.ok.w, ho, h.ok.d, h.ok.wl, h.ok.di⟩, h.mp.mod tn.1 fun x hx => (h.bx x (hTf x hx)).2.2, h.os, h.of.turn hO tn.2, h.oi, h.sf.turn hS tn.2, h.si, (h.fi.flip.turn hI tn.2).flip, fun x hx => List.mem_append.2 ?_, app_lt h.tl tn.1.size hs.lt, fun x hx => ?_⟩, ⟨tn.1.up hTf, fun x hx => List.mem_append.2 (Or.inl hx), fun x hx => (List.mem_append.1 hx).elim Or.inl fun e => (tn.2 x e).imp (hTf x) id⟩⟩
  · rcases hx with hx | hx | hx | hx
    · exact Or.inl (h.sub x (Or.inl hx))
    · exact Or.inl (h.sub x (Or.inr (Or.inl hx)))
    · exact Or.inr hx
    · exact Or.inl (h.sub x (Or.inr (Or.inr (Or.inr hx))))
  · rcases List.mem_append.1 hx with e | e
    · exact h.bx x e
    · exact (tn.2 x e).elim (fun e => h.bx x (hTf x e)) h.fre_new
theorem EgV.input (h : EgV w A v Ts Tf Ti T E) {Ti' : List Nat} {I' : List L8.Sc} {M' : Nat} (tn : L8.Turn Ti Ti' w w') (hs : L8.Inp w' A.p Ti' I' M') : EgV w' A v Ts Tf Ti' (T ++ Ti') { E with I := I', M := M' } ∧ Tn T (T ++ Ti') w w' := by
  have hTi : ∀ x ∈ Ti, x ∈ T := fun x hx => h.sub x (Or.inr (Or.inr (Or.inr hx)))
  have hO := h.own.lt
  have hS := h.st.tl
  have hF := h.fr.lt
  refine ⟨⟨(h.own.mod tn.1 h.oi).as rfl rfl rfl rfl rfl, h.st.other tn.1 (fun x hs hx => h.si x hx hs) (fun x hx => (h.bx x (hTi x hx)).1) (fun x hx => (h.bx x (hTi x hx)).2.1), h.fr.mod tn.1 fun x hx hs => h.fi x hx hs, hs, ⟨h.ok.x, h.ok.w, h.ok.f, h.ok.d, h.ok.wl, h.ok.di⟩, h.mp.mod tn.1 fun x hx => (h.bx x (hTi x hx)).2.2, h.os, h.of, h.oi.turn hO tn.2, h.sf, h.si.turn hS tn.2, h.fi.turn hF tn.2, fun x hx => List.mem_append.2 ?_, app_lt h.tl tn.1.size hs.lt, fun x hx => ?_⟩, ⟨tn.1.up hTi, fun x hx => List.mem_append.2 (Or.inl hx), fun x hx => (List.mem_append.1 hx).elim Or.inl fun e => (tn.2 x e).imp (hTi x) id⟩⟩
  · rcases hx with hx | hx | hx | hx
    · exact Or.inl (h.sub x (Or.inl hx))
    · exact Or.inl (h.sub x (Or.inr (Or.inl hx)))
    · exact Or.inl (h.sub x (Or.inr (Or.inr (Or.inl hx))))
    · exact Or.inr hx
  · rcases List.mem_append.1 hx with e | e
    · exact h.bx x e
    · exact (tn.2 x e).elim (fun e => h.bx x (hTi x e)) h.fre_new
theorem EgV.owns (h : EgV w A v Ts Tf Ti T E) {v' : Vr} {E' : Es} (m : Mod (Ow15 A v) w w') (hv : ∀ x ∈ Ow15 A v', x ∈ Ow15 A v ∨ w.heap.size ≤ x) (ho : Eown w' A v' E') (hC : E'.C = E.C) (hμ : E'.μ = E.μ) (hF : E'.F = E.F) (hI : E'.I = E.I) (hM : E'.M = E.M) (hok : OkE E') : EgV w' A v' Ts Tf Ti (T ++ Ow15 A v') E' ∧ Tn T (T ++ Ow15 A v') w w' := by
  have hTo : ∀ x ∈ Ow15 A v, x ∈ T := fun x hx => h.sub x (Or.inl hx)
  have st' := h.st.other m h.os (fun x hx => (h.bx x (hTo x hx)).1) (fun x hx => (h.bx x (hTo x hx)).2.1)
  have fr' := h.fr.mod m fun x hx hs => h.of x hs hx
  have in' := h.inp.mod m fun x hx hs => h.oi x hs hx
  have hSl := h.st.tl
  have hFl := h.fr.lt
  have hIl := h.inp.lt
  refine ⟨⟨ho, by rw [hC, hμ]; exact st', by rw [hF]; exact fr', by rw [hI, hM]; exact in', hok, h.mp.mod m fun x hx => (h.bx x (hTo x hx)).2.2, (h.os.flip.turn hSl hv).flip, (h.of.flip.turn hFl hv).flip, (h.oi.flip.turn hIl hv).flip, h.sf, h.si, h.fi, fun x hx => List.mem_append.2 ?_, app_lt h.tl m.size ho.lt, fun x hx => ?_⟩, ⟨m.up hTo, fun x hx => List.mem_append.2 (Or.inl hx), fun x hx => (List.mem_append.1 hx).elim Or.inl fun e => (hv x e).imp (hTo x) id⟩⟩
  · rcases hx with hx | hx | hx | hx
    · exact Or.inr hx
    · exact Or.inl (h.sub x (Or.inr (Or.inl hx)))
    · exact Or.inl (h.sub x (Or.inr (Or.inr (Or.inl hx))))
    · exact Or.inl (h.sub x (Or.inr (Or.inr (Or.inr hx))))
  · rcases List.mem_append.1 hx with e | e
    · exact h.bx x e
    · exact (hv x e).elim (fun e => h.bx x (hTo x e)) h.fre_new
end
def Eg (w : World) (A : Ag) (T : List Nat) (E : Es) : Prop := ∃ v Ts Tf Ti, EgV w A v Ts Tf Ti T E
def Plays (A : Ag) (T : List Nat) (w : World) (r : Value) (E' : Es) (e : Ending) (w' : World) : Prop := e = .returned r ∧ ∃ T', Eg w' A T' E' ∧ Tn T T' w w'
end Go.Proofs.YtifnkmddinoneaaGreatDoor
namespace Go.Proofs.YtifnkmddinoneaaGreatDoor
open Go.RowKit
set_option linter.unusedVariables false
section
variable {w w' : World} {A : Ag} {E : Es} {T : List Nat}
theorem Eg.far (h : Eg w A T E) (k : Mod [] w w') : Eg w' A T E := by
  obtain ⟨v, Ts, Tf, Ti, h⟩ := h
  exact ⟨v, Ts, Tf, Ti, h.far k⟩
theorem Eg.ok (h : Eg w A T E) : OkE E := by obtain ⟨v, Ts, Tf, Ti, h⟩ := h; exact h.ok
theorem Eg.n (h : Eg w A T E) : E.C.length ≤ 128 := by obtain ⟨v, Ts, Tf, Ti, h⟩ := h; exact h.st.st.n
theorem Eg.i64 (h : Eg w A T E) : ∀ x ∈ E.C, I64 x := by obtain ⟨v, Ts, Tf, Ti, h⟩ := h; exact h.st.st.2
theorem Eg.few (h : Eg w A T E) : E.F.length ≤ 128 := by obtain ⟨v, Ts, Tf, Ti, h⟩ := h; exact h.fr.few
theorem Eg.tl (h : Eg w A T E) : ∀ x ∈ T, x < w.heap.size := by obtain ⟨v, Ts, Tf, Ti, h⟩ := h; exact h.tl
theorem Eg.dep (h : Eg w A T E) : E.I.length ≤ 8 := by obtain ⟨v, Ts, Tf, Ti, h⟩ := h; obtain ⟨u, h, _⟩ := h.inp; exact h.dep
theorem Plays.of (h : Eg w A T E) (k : Mod [] w w') (r : Value) : Plays A T w r E (.returned r) w' := ⟨rfl, T, h.far k, Tn.far k⟩
theorem Eg.spush (h : Eg w A T E) (x : Int) (hx : I64 x) : Calls Tryz.prog 28 #[Pt A.a.p, .int .i64 x] w (Plays A T w (.int .i64 (pushE x E).1) (pushE x E).2) := by
  obtain ⟨v, Ts, Tf, Ti, h⟩ := h
  refine (push_calls h.st.st x hx).mono ?_
  rintro e w' ⟨e1, s, k⟩
  obtain ⟨h1, h2⟩ := h.state (.of_mod k (by simp; exact h.st.ts.2.1)) (h.st.stack k s)
  exact ⟨e1, _, ⟨_, _, _, _, h1⟩, h2⟩
theorem Eg.sput (h : Eg w A T E) {B : Option Addr} {n : Nat} (cap : Nat) {X : List Int} (hs : Sl w B X) (hn : n = X.length) (hI : ∀ x ∈ X, I64 x) (hm : n ≤ 9223372036854775807) : Calls Tryz.prog 16 #[Pt A.a.p, .slice B n cap] w (Plays A T w (.int .i64 (putL X E.C).1) { E with C := (putL X E.C).2 }) := by
  obtain ⟨v, Ts, Tf, Ti, h⟩ := h
  refine (put_calls h.st.st cap hs hn hI hm).mono ?_
  rintro e w' ⟨e1, s, k⟩
  obtain ⟨h1, h2⟩ := h.state (.of_mod k (by simp; exact h.st.ts.2.1)) (h.st.stack k s)
  exact ⟨e1, _, ⟨_, _, _, _, h1⟩, h2⟩
theorem Eg.scut (h : Eg w A T E) (n : Int) (hn : I64 n) : Calls Tryz.prog 253 #[Pt A.a.p, .int .i64 n] w (Plays A T w (.tuple #[]) { E with C := cutL (clamp n) E.C }) := by
  obtain ⟨v, Ts, Tf, Ti, h⟩ := h
  refine (cut_calls h.st.st n hn).mono ?_
  rintro e w' ⟨e1, s, k⟩
  obtain ⟨h1, h2⟩ := h.state (.of_mod k (by simp; exact h.st.ts.2.1)) (h.st.stack k s)
  exact ⟨e1, _, ⟨_, _, _, _, h1⟩, h2⟩
theorem Eg.spop (h : Eg w A T E) {R : List Int} {x : Int} (hC : E.C = R ++ [x]) : Calls Tryz.prog 237 #[Pt A.a.p] w (Plays A T w (.tuple #[.int .i64 x, .int .i64 0]) { E with C := R }) := by
  obtain ⟨v, Ts, Tf, Ti, h⟩ := h
  have st := h.st.st
  rw [hC] at st
  refine (pop_some st).mono ?_
  rintro e w' ⟨e1, s, k⟩
  obtain ⟨h1, h2⟩ := h.state (.of_mod k (by simp; exact h.st.ts.2.1)) (h.st.stack k s)
  exact ⟨e1, _, ⟨_, _, _, _, h1⟩, h2⟩
theorem Eg.spop0 (h : Eg w A T E) (hC : E.C = []) : Calls Tryz.prog 237 #[Pt A.a.p] w fun e w' => e = .returned (.tuple #[.int .i64 0, .int .i64 (-4)]) ∧ w = w' := by
  obtain ⟨v, Ts, Tf, Ti, h⟩ := h
  have st := h.st.st
  rw [hC] at st
  exact pop_none st
theorem Eg.stake (h : Eg w A T E) (n : Nat) (hb : n ≤ E.C.length) : Calls Tryz.prog 257 #[Pt A.a.p, .int .i64 (n : Int)] w fun e w' => ∃ b c T', e = .returned (.tuple #[.slice (some ⟨b, 0, none⟩) n c, .int .i64 0]) ∧ Ow w' b (E.C.drop (E.C.length - n)) c ∧ w.heap.size ≤ b ∧ b < w'.heap.size ∧ b ∉ T' ∧ Eg w' A T' { E with C := E.C.take (E.C.length - n) } ∧ Tn T T' w w' := by
  obtain ⟨v, Ts, Tf, Ti, h⟩ := h
  refine (take_ok h.st.st n hb).mono ?_
  rintro e w' ⟨b, c, e1, ho, hb, s, k⟩
  have hp := h.st.ts.2.1
  obtain ⟨h1, h2⟩ := h.state (.of_mod k (by simp; exact hp)) (h.st.stack k s)
  refine ⟨b, c, _, e1, ho, hb, ho.lt, fun hx => ?_, ⟨_, _, _, _, h1⟩, h2⟩
  rcases List.mem_append.1 hx with hx | hx
  · have := h.tl b hx; omega
  · have := h.st.tl b hx; omega
theorem Eg.stake0 (h : Eg w A T E) (n : Nat) (hb : E.C.length < n) (hn : n ≤ 1000) : Calls Tryz.prog 257 #[Pt A.a.p, .int .i64 (n : Int)] w fun e w' => e = .returned (.tuple #[.slice none 0 0, .int .i64 (-4)]) ∧ w = w' := by
  obtain ⟨v, Ts, Tf, Ti, h⟩ := h
  exact take_under h.st.st n (by unfold I64; omega) (by omega)
theorem Eg.sdepth (h : Eg w A T E) : Calls Tryz.prog 23 #[Pt A.a.p] w fun e w' => e = .returned (.int .i64 (E.C.length : Int)) ∧ w = w' := by
  obtain ⟨v, Ts, Tf, Ti, h⟩ := h
  exact depth_calls h.st.st
theorem Eg.sstack (h : Eg w A T E) : Calls Tryz.prog 15 #[Pt A.a.s] w fun e w' => e = .returned (Pt A.a.p) ∧ w = w' := by
  obtain ⟨v, Ts, Tf, Ti, h⟩ := h
  exact stack_of h.st
theorem Eg.fpush (h : Eg w A T E) {q : L14.Fm} {s : Value} (hs : L14.Ls w s q.l) (hb : q.l.length ≤ 1000) (ho : OkF q) : Calls Tryz.prog 18 #[Pt A.f, L14.frV q s] w (Plays A T w (.int .i64 (frameE q E).1) (frameE q E).2) := by
  obtain ⟨v, Ts, Tf, Ti, h⟩ := h
  refine (L14.push_calls h.fr hs hb).mono ?_
  rintro e w' ⟨e1, Tf', hf, tn⟩
  obtain ⟨h1, h2⟩ := h.frames tn hf (fun x hx => by
    unfold L14.pushL at hx
    split at hx
    · exact h.ok.f x hx
    · rcases List.mem_append.1 hx with hx | hx
      · exact h.ok.f x hx
      · rw [List.mem_singleton.1 hx]; exact ho)
  exact ⟨e1, _, ⟨_, _, _, _, h1⟩, h2⟩
theorem okF_sub {F F' : List L14.Fm} (h : ∀ q ∈ F, OkF q) (hs : ∀ q ∈ F', q ∈ F) : ∀ q ∈ F', OkF q := fun q hq => h q (hs q hq)
theorem popL_sub (k : Int) (F : List L14.Fm) : ∀ q ∈ L14.popL k F, q ∈ F := fun q hq => by
  unfold L14.popL at hq
  split at hq
  · exact (List.dropLast_sublist _).subset hq
  · exact hq
theorem Eg.fpop (h : Eg w A T E) (k : Int) : Calls Tryz.prog 116 #[Pt A.f, .int .i64 k] w fun e w' => ∃ B n c, e = .returned (.tuple #[L14.frV ((L14.topK k E.F).getD L14.zF) (.slice B n c), .int .i64 (L14.errK k (-6) E.F)]) ∧ ∃ T', Eg w' A T' { E with F := L14.popL k E.F } ∧ Tn T T' w w' := by
  obtain ⟨v, Ts, Tf, Ti, h⟩ := h
  refine (L14.pop_calls h.fr k).mono ?_
  rintro e w' ⟨s', e1, hl, Tf', hf, tn, _⟩
  obtain ⟨B, c, rfl, _⟩ := hl.ls
  obtain ⟨h1, h2⟩ := h.frames tn hf (okF_sub h.ok.f (popL_sub k E.F))
  exact ⟨_, _, _, e1, _, ⟨_, _, _, _, h1⟩, h2⟩
theorem Eg.ftop (h : Eg w A T E) : Calls Tryz.prog 21 #[Pt A.f] w fun e w' => ∃ B n c, e = .returned (.tuple #[L14.frV (L14.topV E.F) (.slice B n c), .bool E.F.getLast?.isSome]) ∧ Mod [] w w' := by
  obtain ⟨v, Ts, Tf, Ti, h⟩ := h
  refine (L14.top_calls h.fr).mono ?_
  rintro e w' ⟨s', e1, hl, k⟩
  obtain ⟨B, c, rfl, _⟩ := hl.1.ls
  exact ⟨_, _, _, e1, k⟩
theorem Eg.fdepth (h : Eg w A T E) (n : Nat) (hn : E.F.length = n) : Calls Tryz.prog 22 #[Pt A.f] w fun e w' => e = .returned (.int .i64 (n : Int)) ∧ w = w' := by
  obtain ⟨v, Ts, Tf, Ti, h⟩ := h
  exact L14.depth_calls h.fr n hn
theorem Eg.fcut (h : Eg w A T E) (m : Int) : Calls Tryz.prog 254 #[Pt A.f, .int .i64 m] w fun e w' => (∃ r, e = .returned r) ∧ ∃ T', Eg w' A T' { E with F := L14.cutL m E.F } ∧ Tn T T' w w' := by
  obtain ⟨v, Ts, Tf, Ti, h⟩ := h
  refine (L14.cut_calls h.fr m).mono ?_
  rintro e w' ⟨e1, Tf', hf, tn⟩
  obtain ⟨h1, h2⟩ := h.frames tn hf (okF_sub h.ok.f fun q hq => List.mem_of_mem_take hq)
  exact ⟨e1, _, ⟨_, _, _, _, h1⟩, h2⟩
theorem Eg.findex (h : Eg w A T E) (t : Int) : Calls Tryz.prog 300 #[Pt A.f, .int .i64 t] w fun e w' => e = .returned (.tuple #[.int .i64 ((L14.indexL t E.F).getD 0), .int .i64 (L14.orE (-26) (L14.indexL t E.F))]) ∧ Mod [] w w' := by
  obtain ⟨v, Ts, Tf, Ti, h⟩ := h
  obtain ⟨u, O, hv, e1, _, _⟩ := h.fr
  rw [e1]
  exact L14.index_calls hv t
theorem Eg.flocal (h : Eg w A T E) (i : Int) : Calls Tryz.prog 246 #[Pt A.f, .int .i64 i] w fun e w' => e = .returned (.tuple #[.int .i64 ((L14.localL i E.F).getD 0), .int .i64 (L14.orE (-6) (L14.localL i E.F))]) ∧ Mod [] w w' := by
  obtain ⟨v, Ts, Tf, Ti, h⟩ := h
  exact L14.get_calls h.fr i
theorem stepL_ok (s : Int) {F : List L14.Fm} (h : ∀ q ∈ F, OkF q) : ∀ q ∈ L14.stepL s F, OkF q := fun q hq => by
  unfold L14.stepL at hq
  split at hq
  · rename_i q0 h0
    have hm : q0 ∈ F := by
      unfold L14.topK at h0
      obtain ⟨z, hz, hz2⟩ := Option.bind_eq_some_iff.1 h0
      split at hz2
      · injection hz2 with hz2; subst hz2; exact List.mem_of_getLast? hz
      · cases hz2
    split at hq
    · exact h q ((List.dropLast_sublist _).subset hq)
    · rcases List.mem_append.1 hq with hq | hq
      · exact h q ((List.dropLast_sublist _).subset hq)
      · rw [List.mem_singleton.1 hq]
        obtain ⟨a1, a2, a3, a4, a5⟩ := h q0 hm
        exact ⟨a1, a2, i64_wrap _, a4, a5⟩
  · exact h q hq
theorem Eg.fstep (h : Eg w A T E) (s : Int) : Calls Tryz.prog 301 #[Pt A.f, .int .i64 s] w (Plays A T w (.tuple #[.bool (L14.stepEnd s E.F), .int .i64 (L14.errK 3 (-26) E.F)]) { E with F := L14.stepL s E.F }) := by
  obtain ⟨v, Ts, Tf, Ti, h⟩ := h
  refine (L14.step_calls h.fr s).mono ?_
  rintro e w' ⟨e1, Tf', hf, tn⟩
  obtain ⟨h1, h2⟩ := h.frames tn hf (stepL_ok s h.ok.f)
  exact ⟨e1, _, ⟨_, _, _, _, h1⟩, h2⟩
theorem setL_ok (i x : Int) (hx : I64 x) {F : List L14.Fm} (h : ∀ q ∈ F, OkF q) : ∀ q ∈ L14.setL i x F, OkF q := fun q hq => by
  unfold L14.setL at hq
  split at hq
  · obtain ⟨j, hj⟩ := List.mem_iff_getElem?.1 hq
    rw [List.getElem?_modify] at hj
    obtain ⟨z, hz, e⟩ := Option.map_eq_some_iff.1 hj
    have hz := h z (List.mem_of_getElem? hz)
    split at e
    · subst e
      obtain ⟨a1, a2, a3, a4, a5⟩ := hz
      exact ⟨a1, a2, a3, a4, fun l hl => (List.mem_or_eq_of_mem_set hl).elim (a5 l) fun e => by rw [e]; exact hx⟩
    · subst e; exact hz
  · exact h q hq
theorem Eg.fset (h : Eg w A T E) (i x : Int) (hx : I64 x) : Calls Tryz.prog 248 #[Pt A.f, .int .i64 i, .int .i64 x] w (Plays A T w (.int .i64 (L14.orE (-6) (L14.localL i E.F))) { E with F := L14.setL i x E.F }) := by
  obtain ⟨v, Ts, Tf, Ti, h⟩ := h
  refine (L14.set_calls h.fr i x).mono ?_
  rintro e w' ⟨e1, Tf', hf, tn⟩
  obtain ⟨h1, h2⟩ := h.frames tn hf (setL_ok i x hx h.ok.f)
  exact ⟨e1, _, ⟨_, _, _, _, h1⟩, h2⟩
theorem Eg.fcatch0 (h : Eg w A T E) (hn : L14.caught E.F = none) : Calls Tryz.prog 252 #[Pt A.f] w fun e w' => e = .returned (.tuple #[.agg L14.zC, .bool false]) ∧ Mod [] w w' := by
  obtain ⟨v, Ts, Tf, Ti, h⟩ := h
  rcases L14.top_cases L14.isCatch E.F with h0 | ⟨X, q, Y, e1, h1, h2⟩
  · exact L14.catch_no h.fr h0
  · rw [e1, (L14.catch_is h1 h2).2.2] at hn
    cases hn
theorem Eg.fcatch (h : Eg w A T E) {q : L14.Fm} (hn : L14.caught E.F = some q) : Calls Tryz.prog 252 #[Pt A.f] w fun e w' => ∃ B n c, e = .returned (.tuple #[L14.frV q (.slice B n c), .bool true]) ∧ ∃ T', Eg w' A T' { E with F := L14.catchL E.F } ∧ Tn T T' w w' := by
  obtain ⟨v, Ts, Tf, Ti, h⟩ := h
  rcases L14.top_cases L14.isCatch E.F with h0 | ⟨X, q', Y, e1, h1, h2⟩
  · rw [(L14.catch_none h0).2.2] at hn; cases hn
  · have hf := h.fr
    have hc := L14.catch_is (A := X) h1 h2
    rw [← e1] at hc
    rw [hc.2.2] at hn
    injection hn with hn
    subst hn
    rw [e1] at hf
    have hk : q'.k = 5 := by unfold L14.isCatch at h1; simpa using h1
    refine (L14.catch_yes hf hk h2).mono ?_
    rintro e w' ⟨s', e2, hl, Tf', hf', tn, _⟩
    obtain ⟨B, c, rfl, _⟩ := hl.ls
    obtain ⟨g1, g2⟩ := h.frames tn hf' (okF_sub h.ok.f fun z hz => by rw [e1]; exact List.mem_append.2 (Or.inl hz))
    rw [hc.2.1]
    exact ⟨_, _, _, e2, _, ⟨_, _, _, _, g1⟩, g2⟩
theorem Eg.idepth (h : Eg w A T E) : Calls Tryz.prog 33 #[Pt A.p] w fun e w' => e = .returned (.int .i64 (E.I.length : Int)) ∧ w = w' := by
  obtain ⟨v, Ts, Tf, Ti, h⟩ := h
  exact L8.depth_calls h.inp
theorem Eg.iin (h : Eg w A T E) : Calls Tryz.prog 30 #[Pt A.p] w fun e w' => e = .returned (.int .i64 (inE E.I)) ∧ Mod [] w w' := by
  obtain ⟨v, Ts, Tf, Ti, h⟩ := h
  rcases List.eq_nil_or_concat E.I with e | ⟨B, x, e⟩
  · have hi := h.inp
    rw [e] at hi
    have e2 : inE E.I = 0 := by rw [e]; rfl
    rw [e2]
    exact L8.in_bare (L8.Nothing.of hi)
  · rw [List.concat_eq_append] at e
    have hi := h.inp
    rw [e] at hi
    have e2 : inE E.I = (x.i : Int) := by rw [e]; simp [inE]
    rw [e2]
    refine (L8.in_top hi).mono ?_
    rintro e w' ⟨rfl, rfl⟩
    exact ⟨rfl, Mod.refl [] w⟩
theorem Eg.icut (h : Eg w A T E) (n : Int) (hn : I64 n) : Calls Tryz.prog 255 #[Pt A.p, .int .i64 n] w (Plays A T w (.tuple #[]) { E with I := E.I.take (heldN E.I.length n) }) := by
  obtain ⟨v, Ts, Tf, Ti, h⟩ := h
  refine (L8.cut_ok h.inp n hn).mono ?_
  rintro e w' ⟨e1, Ti', hf, tn⟩
  obtain ⟨h1, h2⟩ := h.input tn hf
  exact ⟨e1, _, ⟨_, _, _, _, h1⟩, h2⟩
theorem Eg.iseek (h : Eg w A T E) (n : Int) (hn : I64 n) : Calls Tryz.prog 256 #[Pt A.p, .int .i64 n] w (Plays A T w (.tuple #[]) { E with I := seekL n E.I }) := by
  obtain ⟨v, Ts, Tf, Ti, h⟩ := h
  rcases List.eq_nil_or_concat E.I with e | ⟨B, x, e⟩
  · have hi := h.inp
    rw [e] at hi
    have e2 : seekL n E.I = E.I := by rw [e]; rfl
    rw [e2]
    refine (L8.seek_bare (L8.Nothing.of hi) n hn).mono ?_
    rintro e w' ⟨e1, k⟩
    exact ⟨e1, _, ⟨_, _, _, _, h.far k⟩, Tn.far k⟩
  · rw [List.concat_eq_append] at e
    have hi := h.inp
    rw [e] at hi
    have e2 : seekL n E.I = B ++ [{ x with i := heldN x.t.length n }] := by rw [e]; simp [seekL]
    rw [e2]
    refine (L8.seek_top hi n hn).mono ?_
    rintro e w' ⟨e1, Ti', hf, tn⟩
    obtain ⟨h1, h2⟩ := h.input tn hf
    exact ⟨e1, _, ⟨_, _, _, _, h1⟩, h2⟩
end
end Go.Proofs.YtifnkmddinoneaaGreatDoor
namespace Go.Proofs.YtifnkmddinoneaaGreatDoor
open Go.RowKit
set_option linter.unusedVariables false

theorem row_slice {w : World} {e : TypeId} {k n : Nat} {v : Value} {xs : List Value} (h : w.ownsRow 0 e k v n xs) : ∃ B c, v = .slice B n c := by
  rcases h.2 with ⟨rfl, h0⟩ | ⟨g, cap, cur, rfl, _⟩
  · exact ⟨none, 0, by rw [h0]⟩
  · exact ⟨_, _, rfl⟩
theorem set_same {w : World} {g i : Nat} {u v : Value} (h : w.cell? ⟨g, i, none⟩ = some u) : (w.setCell ⟨g, i, none⟩ v).cell? ⟨g, i, none⟩ = some v := World.cell?_setCell_same _ _ _ (h := h)
section
variable {w w' : World} {A : Ag} {v : Vr} {E : Es} {Ts Tf Ti S T : List Nat}
theorem Eown.set6 (h : Eown w A v E) (d : Int) : Eown (w.setCell ⟨A.g, 6, none⟩ (.int .i64 d)) A v { E with d := d } := by
  have k := L14.set_mod w A.g 6 (.int .i64 d)
  have hn := (List.nodup_cons.1 h.sep).1
  have hne : ∀ x, (v.p.ownBlock = some x ∨ v.e.ownBlock = some x ∨ v.w.ownBlock = some x) → x ∉ [A.g] := fun x hx e => hn (by rw [List.mem_singleton.1 e] at hx; simpa [Vr.bs] using hx)
  exact ⟨cell_other h.c0 (by decide), cell_other h.c1 (by decide), cell_other h.c2 (by decide), cell_other h.c3 (by decide), cell_other h.c4 (by decide), cell_other h.c5 (by decide), set_same h.c6, cell_other h.c7 (by decide), cell_other h.c8 (by decide), cell_other h.c9 (by decide), cell_other h.c10 (by decide), cell_other h.c11 (by decide), fun i => (World.frozen?_setCell _ _ _ _).trans (h.f i), Nat.lt_of_lt_of_le h.lg k.size, L14.row_mod h.rp k fun g e => hne g (Or.inl e), L14.row_mod h.re k fun g e => hne g (Or.inr (Or.inl e)), L14.row_mod h.rw k fun g e => hne g (Or.inr (Or.inr e)), h.sep⟩
theorem Eown.set7 (h : Eown w A v E) (d : Int) : Eown (w.setCell ⟨A.g, 7, none⟩ (.int .i64 d)) A v { E with i := d } := by
  have k := L14.set_mod w A.g 7 (.int .i64 d)
  have hn := (List.nodup_cons.1 h.sep).1
  have hne : ∀ x, (v.p.ownBlock = some x ∨ v.e.ownBlock = some x ∨ v.w.ownBlock = some x) → x ∉ [A.g] := fun x hx e => hn (by rw [List.mem_singleton.1 e] at hx; simpa [Vr.bs] using hx)
  exact ⟨cell_other h.c0 (by decide), cell_other h.c1 (by decide), cell_other h.c2 (by decide), cell_other h.c3 (by decide), cell_other h.c4 (by decide), cell_other h.c5 (by decide), cell_other h.c6 (by decide), set_same h.c7, cell_other h.c8 (by decide), cell_other h.c9 (by decide), cell_other h.c10 (by decide), cell_other h.c11 (by decide), fun i => (World.frozen?_setCell _ _ _ _).trans (h.f i), Nat.lt_of_lt_of_le h.lg k.size, L14.row_mod h.rp k fun g e => hne g (Or.inl e), L14.row_mod h.re k fun g e => hne g (Or.inr (Or.inl e)), L14.row_mod h.rw k fun g e => hne g (Or.inr (Or.inr e)), h.sep⟩
theorem Eown.set8 (h : Eown w A v E) (d : Int) : Eown (w.setCell ⟨A.g, 8, none⟩ (.int .i64 d)) A v { E with nx := d } := by
  have k := L14.set_mod w A.g 8 (.int .i64 d)
  have hn := (List.nodup_cons.1 h.sep).1
  have hne : ∀ x, (v.p.ownBlock = some x ∨ v.e.ownBlock = some x ∨ v.w.ownBlock = some x) → x ∉ [A.g] := fun x hx e => hn (by rw [List.mem_singleton.1 e] at hx; simpa [Vr.bs] using hx)
  exact ⟨cell_other h.c0 (by decide), cell_other h.c1 (by decide), cell_other h.c2 (by decide), cell_other h.c3 (by decide), cell_other h.c4 (by decide), cell_other h.c5 (by decide), cell_other h.c6 (by decide), cell_other h.c7 (by decide), set_same h.c8, cell_other h.c9 (by decide), cell_other h.c10 (by decide), cell_other h.c11 (by decide), fun i => (World.frozen?_setCell _ _ _ _).trans (h.f i), Nat.lt_of_lt_of_le h.lg k.size, L14.row_mod h.rp k fun g e => hne g (Or.inl e), L14.row_mod h.re k fun g e => hne g (Or.inr (Or.inl e)), L14.row_mod h.rw k fun g e => hne g (Or.inr (Or.inr e)), h.sep⟩
theorem EgV.put (h : EgV w A v Ts Tf Ti T E) {E' : Es} (m : Mod [A.g] w w') (ho : Eown w' A v E') (hC : E'.C = E.C) (hμ : E'.μ = E.μ) (hF : E'.F = E.F) (hI : E'.I = E.I) (hM : E'.M = E.M) (hok : OkE E') : EgV w' A v Ts Tf Ti T E' ∧ Tn T T w w' := by
  have hg : A.g ∈ Ow15 A v := mem_Ow15.2 (Or.inl rfl)
  have hT := h.sub A.g (Or.inl hg)
  have hs : ∀ x ∈ [A.g], x ∈ Ow15 A v := fun x hx => by rw [List.mem_singleton.1 hx]; exact hg
  have hb := h.bx A.g hT
  refine ⟨⟨ho, ?_, ?_, ?_, hok, h.mp.mod m fun x hx => by rw [List.mem_singleton.1 hx]; exact hb.2.2, h.os, h.of, h.oi, h.sf, h.si, h.fi, h.sub, fun x hx => Nat.lt_of_lt_of_le (h.tl x hx) m.size, h.bx⟩, Tn.of_mod m fun x hx => by rw [List.mem_singleton.1 hx]; exact hT⟩
  · rw [hC, hμ]
    exact h.st.other m (fun x hx => h.os x (hs x hx)) (fun x hx => by rw [List.mem_singleton.1 hx]; exact hb.1) (fun x hx => by rw [List.mem_singleton.1 hx]; exact hb.2.1)
  · rw [hF]; exact h.fr.mod m fun x hx hs2 => h.of x (hs x hs2) hx
  · rw [hI, hM]; exact h.inp.mod m fun x hx hs2 => h.oi x (hs x hs2) hx
theorem Eg.set6 (h : Eg w A T E) (d : Int) (hd : I64 d) : Eg (w.setCell ⟨A.g, 6, none⟩ (.int .i64 d)) A T { E with d := d } ∧ Tn T T w (w.setCell ⟨A.g, 6, none⟩ (.int .i64 d)) := by
  obtain ⟨v, Ts, Tf, Ti, h⟩ := h
  have := h.put (L14.set_mod w A.g 6 (.int .i64 d)) (h.own.set6 d) rfl rfl rfl rfl rfl ⟨h.ok.x, h.ok.w, h.ok.f, h.ok.d, h.ok.wl, hd, h.ok.di.2⟩
  exact ⟨⟨_, _, _, _, this.1⟩, this.2⟩
theorem Eg.set7 (h : Eg w A T E) (d : Int) (hd : I64 d) : Eg (w.setCell ⟨A.g, 7, none⟩ (.int .i64 d)) A T { E with i := d } ∧ Tn T T w (w.setCell ⟨A.g, 7, none⟩ (.int .i64 d)) := by
  obtain ⟨v, Ts, Tf, Ti, h⟩ := h
  have := h.put (L14.set_mod w A.g 7 (.int .i64 d)) (h.own.set7 d) rfl rfl rfl rfl rfl ⟨h.ok.x, h.ok.w, h.ok.f, h.ok.d, h.ok.wl, h.ok.di.1, hd, h.ok.di.2.2⟩
  exact ⟨⟨_, _, _, _, this.1⟩, this.2⟩
theorem Eg.set8 (h : Eg w A T E) (d : Int) (hd : I64 d) : Eg (w.setCell ⟨A.g, 8, none⟩ (.int .i64 d)) A T { E with nx := d } ∧ Tn T T w (w.setCell ⟨A.g, 8, none⟩ (.int .i64 d)) := by
  obtain ⟨v, Ts, Tf, Ti, h⟩ := h
  have := h.put (L14.set_mod w A.g 8 (.int .i64 d)) (h.own.set8 d) rfl rfl rfl rfl rfl ⟨h.ok.x, h.ok.w, h.ok.f, h.ok.d, h.ok.wl, h.ok.di.1, h.ok.di.2.1, hd⟩
  exact ⟨⟨_, _, _, _, this.1⟩, this.2⟩
structure Cs (w : World) (A : Ag) (E : Es) : Prop where
  c3 : w.cell? ⟨A.g, 3, none⟩ = some (Pt A.a.s)
  c4 : w.cell? ⟨A.g, 4, none⟩ = some (Pt A.p)
  c5 : w.cell? ⟨A.g, 5, none⟩ = some (Pt A.f)
  c6 : w.cell? ⟨A.g, 6, none⟩ = some (.int .i64 E.d)
  c7 : w.cell? ⟨A.g, 7, none⟩ = some (.int .i64 E.i)
  c8 : w.cell? ⟨A.g, 8, none⟩ = some (.int .i64 E.nx)
  f6 : w.frozen? ⟨A.g, 6, none⟩ = false
  f7 : w.frozen? ⟨A.g, 7, none⟩ = false
  f8 : w.frozen? ⟨A.g, 8, none⟩ = false
theorem Eg.cs (h : Eg w A T E) : Cs w A E := by
  obtain ⟨v, Ts, Tf, Ti, h⟩ := h
  exact ⟨h.own.c3, h.own.c4, h.own.c5, h.own.c6, h.own.c7, h.own.c8, h.own.f 6, h.own.f 7, h.own.f 8⟩
theorem estack_calls (h : Eg w A T E) : Calls Tryz.prog 236 #[Pt A.g] w fun e w' => e = .returned (Pt A.a.p) ∧ w = w' := by
  have H := Lib.hid h.sstack
  have c3 := h.cs.c3
  clear h
  go_enter Tryz.func236, Tryz.ntmps236
  go_wp2_with fail
  refine (H.out).mono ?_
  rintro e w1 ⟨rfl, rfl⟩
  go_wp2
  go_ret
  exact ⟨rfl, rfl⟩
theorem epush_calls (h : Eg w A T E) (x : Int) (hx : I64 x) : Calls Tryz.prog 114 #[Pt A.g, .int .i64 x] w (Plays A T w (.int .i64 (pushE x E).1) (pushE x E).2) := by
  have H1 := Lib.hid (estack_calls h)
  have H2 := Lib.hid (h.spush x hx)
  obtain ⟨r, hr⟩ : ∃ r, r = pushE x E := ⟨_, rfl⟩
  rw [← hr] at H2 ⊢
  clear h hx hr
  go_enter Tryz.func114, Tryz.ntmps114
  go_wp2_with fail
  refine (H1.out).mono ?_
  rintro e w1 ⟨rfl, rfl⟩
  go_wp2_with fail
  refine (H2.out).mono ?_
  rintro e w1 ⟨rfl, hp⟩
  have HP := Lib.hid hp
  clear hp H1 H2
  go_wp2_with fail
  go_ret
  exact ⟨rfl, HP.out⟩
def stV (s : Sv) : Value := .agg #[.int .i64 s.1, .int .i64 s.2.1, .int .i64 s.2.2]
abbrev TS15 : TypeId := 48
theorem three_at {w : World} {b : Nat} {v0 v1 v2 : Value} {t : TypeId} (h : w.heap[b]? = some (.cells #[v0, v1, v2] t (0, 0))) :
    w.cell? ⟨b, 0, none⟩ = some v0 ∧ w.cell? ⟨b, 1, none⟩ = some v1 ∧ w.cell? ⟨b, 2, none⟩ = some v2 ∧ w.frozen? ⟨b, 0, none⟩ = false ∧ w.frozen? ⟨b, 1, none⟩ = false ∧ w.frozen? ⟨b, 2, none⟩ = false :=
  ⟨L14.cell_eq h 0, L14.cell_eq h 1, L14.cell_eq h 2, L14.frz_eq h 0, L14.frz_eq h 1, L14.frz_eq h 2⟩
abbrev threeSet (w : World) (b : Nat) (v0 v1 v2 : Value) : World := ((w.setCell ⟨b, 0, none⟩ v0).setCell ⟨b, 1, none⟩ v1).setCell ⟨b, 2, none⟩ v2
theorem three_set {w : World} {b : Nat} {u0 u1 u2 : Value} {t : TypeId} (h : w.heap[b]? = some (.cells #[u0, u1, u2] t (0, 0))) (v0 v1 v2 : Value) :
    (threeSet w b v0 v1 v2).heap[b]? = some (.cells #[v0, v1, v2] t (0, 0)) ∧ Mod [b] w (threeSet w b v0 v1 v2) := by
  refine ⟨?_, ?_⟩
  · show (((w.setCell ⟨b, 0, none⟩ v0).setCell ⟨b, 1, none⟩ v1).setCell ⟨b, 2, none⟩ v2).heap[b]? = _
    rw [heap_setCell_same _ b 2 _ _ v2 (heap_setCell_same _ b 1 _ _ v1 (heap_setCell_same _ b 0 _ _ v0 h))]
    rfl
  · exact ((L14.set_mod w b 0 v0).trans (L14.set_mod _ b 1 v1)).trans (L14.set_mod _ b 2 v2)
theorem res_st {fn : Func} {a : Nat} (h : fn.results = #[.cell a TS15]) {tmps : Array Value} {b : Nat} (ht : tmps[a]? = some (Pt b)) {W : World} {v0 v1 v2 : Value} {t : TypeId} (hb : W.heap[b]? = some (.cells #[v0, v1, v2] t (0, 0))) :
    (results fn tmps).run Tryz.prog W = .ok (.agg #[v0, v1, v2]) W := by
  obtain ⟨c0, c1, c2, _⟩ := three_at hb
  simp [results, h, ht, go_sem, c0, c1, c2]
theorem ran_calls (w : World) : Calls Tryz.prog 118 #[] w fun e w' => e = .returned (stV ranS) ∧ Mod [] w w' := by
  go_enter Tryz.func118, Tryz.ntmps118
  go_wp2_with fail
  exact bodyPost_ret (res_st Tryz.results118 rfl (MapKept.heap_alloc w _).1) rfl ⟨rfl, L14.al_mod w _⟩
theorem box_beside (h0 : Eg w A T E) {c : Array Value} {t : TypeId} {w2 : World} {T' : List Nat} {E' : Es} (tn : Tn T T' (w.alloc (.cells c t)) w2) (h : Eg w2 A T' E') : w2.heap[w.heap.size]? = some (.cells c t (0, 0)) ∧ ∀ w3, Mod [w.heap.size] w2 w3 → Eg w3 A T' E' ∧ Tn T T' w w3 := by
  have hz := L14.size_allocI w (.cells c t)
  have hT := h0.tl
  have hb : w.heap.size ∉ T := fun hx => by have := hT _ hx; omega
  have hb' : w.heap.size ∉ T' := fun hx => (tn.new _ hx).elim hb fun e => by omega
  have m0 := L14.al_mod w (.cells c t)
  refine ⟨(tn.m.block _ (by omega) hb).trans (MapKept.heap_alloc w _).1, fun w3 m => ⟨?_, ?_⟩⟩
  · obtain ⟨v0, a0, b0, c0, h0⟩ := h0
    obtain ⟨v, a1, b1, c1, h⟩ := h
    exact ⟨v, a1, b1, c1, h.other m (fun x hx => by rw [List.mem_singleton.1 hx]; exact hb') (fun x hx => by rw [List.mem_singleton.1 hx]; exact h0.fre_new (Nat.le_refl _))⟩
  · have m1 : Mod T w w2 := (m0.up (T := T) (by simp)).trans tn.m
    exact ⟨m1.then m fun x hx => Or.inr (by rw [List.mem_singleton.1 hx]; exact Nat.le_refl _), tn.up, fun x hx => (tn.new x hx).imp id fun e => by omega⟩
end
end Go.Proofs.YtifnkmddinoneaaGreatDoor
namespace Go.Proofs.YtifnkmddinoneaaGreatDoor
open Go.RowKit
set_option linter.unusedVariables false

def upE (D : List (List L10.Xi)) (n : Nat) : Nat := (D.take n).flatten.length
theorem endsL_get (D : List (List L10.Xi)) (k : Nat) (hk : k < D.length) : (endsL D)[k]? = some ((upE D (k + 1) : Nat) : Int) := by simp [endsL, hk, upE]
theorem upE_app (B R : List (List L10.Xi)) : upE (B ++ R) B.length = B.flatten.length := by simp [upE]
theorem upE_snoc (B : List (List L10.Xi)) (l : List L10.Xi) (R : List (List L10.Xi)) : upE (B ++ l :: R) (B.length + 1) = B.flatten.length + l.length := by
  unfold upE
  have e : (B ++ l :: R).take (B.length + 1) = B ++ [l] := by
    rw [show B ++ l :: R = (B ++ [l]) ++ R by simp, List.take_left' (by simp)]
  rw [e]
  simp
theorem flat_len (D : List (List L10.Xi)) (m : Nat) (h : ∀ l ∈ D, l.length ≤ m) : D.flatten.length ≤ D.length * m := by
  induction D with
  | nil => simp
  | cons x r ih =>
    have := ih fun l hl => h l (List.mem_cons_of_mem _ hl)
    have h2 := h x (List.mem_cons_self ..)
    simp only [List.flatten_cons, List.length_append, List.length_cons, Nat.succ_mul]
    omega
theorem Es.code_at {E : Es} {n : Int} {l : List L10.Xi} (h : E.code n = some l) : ∃ B R, E.D = B ++ l :: R ∧ n = (B.length : Int) + 1 := by
  unfold Es.code at h
  split at h
  · rename_i h1
    obtain ⟨hl, e⟩ := List.getElem?_eq_some_iff.1 h
    refine ⟨E.D.take (n - 1).toNat, E.D.drop ((n - 1).toNat + 1), ?_, ?_⟩
    · rw [← e, ← List.drop_eq_getElem_cons hl, List.take_append_drop]
    · rw [List.length_take]; omega
  · cases h
theorem Es.code_iff (E : Es) (n : Int) : (E.code n).isSome = decide (1 ≤ n ∧ n ≤ (E.D.length : Int)) := by
  unfold Es.code
  split
  · rename_i h
    by_cases h2 : n ≤ (E.D.length : Int)
    · rw [List.getElem?_eq_getElem (by omega)]; simp [h, h2]
    · rw [List.getElem?_eq_none (by omega)]; simp [h2]
  · rename_i h; simp [h]
theorem Es.word_iff (E : Es) (n : Int) : (E.word n).isSome = decide (1 ≤ n ∧ n ≤ (E.W.length : Int)) := by
  unfold Es.word
  split
  · rename_i h
    by_cases h2 : n ≤ (E.W.length : Int)
    · rw [List.getElem?_eq_getElem (by omega)]; simp [h, h2]
    · rw [List.getElem?_eq_none (by omega)]; simp [h2]
  · rename_i h; simp [h]
theorem Es.word_at {E : Es} {n : Int} {x : Wd} (h : E.word n = some x) : ∃ B R, E.W = B ++ x :: R ∧ n = (B.length : Int) + 1 := by
  unfold Es.word at h
  split at h
  · rename_i h1
    obtain ⟨hl, e⟩ := List.getElem?_eq_some_iff.1 h
    refine ⟨E.W.take (n - 1).toNat, E.W.drop ((n - 1).toNat + 1), ?_, ?_⟩
    · rw [← e, ← List.drop_eq_getElem_cons hl, List.take_append_drop]
    · rw [List.length_take]; omega
  · cases h
section
variable {w w' : World} {A : Ag} {v : Vr} {E : Es} {Ts Tf Ti S T : List Nat}
theorem isdef_calls (h : Eg w A T E) (n : Int) : Calls Tryz.prog 67 #[Pt A.g, .int .i64 n] w fun e w' => e = .returned (.bool (E.code n).isSome) ∧ w = w' := by
  obtain ⟨v, Ts, Tf, Ti, h⟩ := h
  have c1 := h.own.c1
  obtain ⟨B, c, hs⟩ := row_slice h.own.re
  rw [hs] at c1
  rw [Es.code_iff]
  obtain ⟨m, hm⟩ : ∃ m, m = E.D.length := ⟨_, rfl⟩
  rw [← hm] at c1 ⊢
  clear h hm hs
  by_cases h1 : 1 ≤ n
  · have h1b : decide (1 ≤ n) = true := decide_eq_true h1
    obtain ⟨r, hr⟩ : ∃ r, r = decide (n ≤ (m : Int)) := ⟨_, rfl⟩
    rw [show decide (1 ≤ n ∧ n ≤ (m : Int)) = r by rw [hr]; simp [h1]]
    have hrb := hr.symm
    clear h1 hr
    go_enter Tryz.func67, Tryz.ntmps67
    go_wp2
    go_ret
    exact ⟨by simp [*], rfl⟩
  · have h1b : decide (1 ≤ n) = false := decide_eq_false h1
    rw [show decide (1 ≤ n ∧ n ≤ (m : Int)) = false from decide_eq_false fun h => h1 h.1]
    clear h1
    go_enter Tryz.func67, Tryz.ntmps67
    go_wp2
    go_ret
    exact ⟨by simp [*], rfl⟩
theorem isword_calls (h : Eg w A T E) (n : Int) : Calls Tryz.prog 44 #[Pt A.g, .int .i64 n] w fun e w' => e = .returned (.bool (E.word n).isSome) ∧ w = w' := by
  obtain ⟨v, Ts, Tf, Ti, h⟩ := h
  have c2 := h.own.c2
  obtain ⟨B, c, hs⟩ := row_slice h.own.rw
  rw [hs] at c2
  rw [Es.word_iff]
  obtain ⟨m, hm⟩ : ∃ m, m = E.W.length := ⟨_, rfl⟩
  rw [← hm] at c2 ⊢
  clear h hm hs
  by_cases h1 : 1 ≤ n
  · have h1b : decide (1 ≤ n) = true := decide_eq_true h1
    obtain ⟨r, hr⟩ : ∃ r, r = decide (n ≤ (m : Int)) := ⟨_, rfl⟩
    rw [show decide (1 ≤ n ∧ n ≤ (m : Int)) = r by rw [hr]; simp [h1]]
    have hrb := hr.symm
    clear h1 hr
    go_enter Tryz.func44, Tryz.ntmps44
    go_wp2
    go_ret
    exact ⟨by simp [*], rfl⟩
  · have h1b : decide (1 ≤ n) = false := decide_eq_false h1
    rw [show decide (1 ≤ n ∧ n ≤ (m : Int)) = false from decide_eq_false fun h => h1 h.1]
    clear h1
    go_enter Tryz.func44, Tryz.ntmps44
    go_wp2
    go_ret
    exact ⟨by simp [*], rfl⟩
abbrev TW15 : TypeId := 35
theorem res_wd2 {fn : Func} {a c : Nat} (h : fn.results = #[.cell a TW15, .tmp c]) {tmps : Array Value} {b : Nat} (ht : tmps[a]? = some (Pt b)) {W : World} {v0 v1 v2 : Value} {t : TypeId} (hb : W.heap[b]? = some (.cells #[v0, v1, v2] t (0, 0))) :
    (results fn tmps).run Tryz.prog W = .ok (.tuple #[.agg #[v0, v1, v2], tmps.getD c undef]) W := by
  obtain ⟨c0, c1, c2, _⟩ := three_at hb
  simp [results, h, ht, go_sem, c0, c1, c2]
def wdV (x : Wd) : Value := .agg #[.int .i64 x.k, .int .i64 x.n, .int .i64 x.w]
theorem zero_box (w : World) (t : TypeId) : (w.alloc (.cells #[.int .i64 0, .int .i64 0, .int .i64 0] t)).heap[w.heap.size]? = some (.cells #[.int .i64 0, .int .i64 0, .int .i64 0] t (0, 0)) := (MapKept.heap_alloc w _).1
theorem word_no (h : Eg w A T E) (n : Int) (hn : E.word n = none) : Calls Tryz.prog 107 #[Pt A.g, .int .i64 n] w fun e w' => e = .returned (.tuple #[wdV ⟨0, 0, 0⟩, .bool false]) ∧ Mod [] w w' := by
  have h0 := h.far (L14.al_mod w (.cells #[.int .i64 0, .int .i64 0, .int .i64 0] TW15))
  have H := isword_calls h0 n
  rw [hn] at H
  have H := Lib.hid H
  clear h hn h0
  go_enter Tryz.func107, Tryz.ntmps107
  go_wp2_with fail
  refine (H.out).mono ?_
  rintro e w1 ⟨rfl, rfl⟩
  go_wp2_with fail
  exact bodyPost_ret (res_wd2 Tryz.results107 rfl (zero_box w _)) rfl ⟨rfl, L14.al_mod w _⟩
theorem Eg.word (h : Eg w A T E) {n : Int} {x : Wd} (hn : E.word n = some x) : ∃ (b c m k : Nat), n = (k : Int) + 1 ∧ k < m ∧ m ≤ 600 ∧ w.cell? ⟨A.g, 2, none⟩ = some (.slice (some ⟨b, 0, none⟩) m c) ∧ w.cell? ⟨b, k * 3, none⟩ = some (.int .i64 x.k) ∧ w.cell? ⟨b, k * 3 + 1, none⟩ = some (.int .i64 x.n) ∧ w.cell? ⟨b, k * 3 + 2, none⟩ = some (.int .i64 x.w) := by
  obtain ⟨v, Ts, Tf, Ti, h⟩ := h
  obtain ⟨B, R, e, hk⟩ := Es.word_at hn
  have hr := h.own.rw
  have hm : E.W.length = B.length + 1 + R.length := by rw [e]; simp; omega
  have h2 := h.own.c2
  have hwl := h.ok.wl
  rcases hr.2 with ⟨_, h0⟩ | ⟨b, cap, cur, hv, _⟩
  · omega
  · rw [hv] at h2 hr
    have get : ∀ j, j < 3 → w.cell? ⟨b, B.length * 3 + j, none⟩ = (flatW x)[j]? := fun j hj => by
      rw [hr.cellAt (B.length * 3 + j) (by omega), e, flatW_get B x R j hj]
    exact ⟨b, cap, E.W.length, B.length, hk, by omega, hwl, h2, get 0 (by omega), get 1 (by omega), get 2 (by omega)⟩
set_option maxHeartbeats 1000000 in
theorem word_yes (h : Eg w A T E) (n : Int) {x : Wd} (hn : E.word n = some x) : Calls Tryz.prog 107 #[Pt A.g, .int .i64 n] w fun e w' => e = .returned (.tuple #[wdV x, .bool true]) ∧ Mod [] w w' := by
  have h0 := h.far (L14.al_mod w (.cells #[.int .i64 0, .int .i64 0, .int .i64 0] TW15))
  have H := isword_calls h0 n
  rw [hn] at H
  have H := Lib.hid H
  obtain ⟨b, c, m, k, rfl, hk, hm, c2, g0, g1, g2⟩ := h.word hn
  have hkI : (k : Int) < (m : Int) := by omega
  have hks : (k : Int) + 1 - 1 = (k : Int) := by omega
  have lg : A.g < w.heap.size := World.block_lt_of_cell? _ _ c2
  have lb : b < w.heap.size := World.block_lt_of_cell? _ _ g0
  clear h hn h0
  go_enter Tryz.func107, Tryz.ntmps107
  go_wp2_with fail
  refine (H.out).mono ?_
  rintro e w1 ⟨rfl, rfl⟩
  go_wp2_with fail
  exact bodyPost_ret (res_wd2 Tryz.results107 rfl (MapKept.heap_alloc w _).1) rfl ⟨rfl, L14.al_mod w _⟩
theorem size_packed (W : World) : (Go.sizeOf 133).run Tryz.prog W = .ok 2 W := by kernel_rfl
theorem slice_packed (g n cap a b : Nat) (hab : a < b) (hb : b ≤ n) (hn : n ≤ cap) (W : World) : (Instr.sliceAt 81 (.slice (some ⟨g, 0, none⟩) n cap) (some (.int .i64 (a : Int))) (some (.int .i64 (b : Int))) none).run Tryz.prog W = .ok (.slice (some ⟨g, a * 2, none⟩) (b - a) (cap - a)) W := by
  have ht := Tryz.underlying81
  have he : Tryz.prog.elem 81 = 133 := by simp [Program.elem, ht]
  have ht' : Tryz.prog.underlying 81 = some (.slice (Tryz.prog.elem 81)) := by rw [he]; exact ht
  rw [run_sliceAt_slice W 81 _ _ _ _ ht', run_slice_lh W 81 (some ⟨g, 0, none⟩) n cap ht' .i64 .i64 a b (by omega) (by omega) (by omega), he, size_packed]
  show Result.ok (sliced (some ⟨g, 0, none⟩) (a : Int).toNat (b : Int).toNat cap 2) W = _
  unfold sliced
  rw [Int.toNat_natCast, Int.toNat_natCast, if_neg (by omega)]
  simp [Addr.add]
  exact fun e => e.symm
theorem eend_calls (h : Eg w A T E) (n : Nat) (hn : n ≤ E.D.length) : Calls Tryz.prog 259 #[Pt A.g, .int .i64 (n : Int)] w fun e w' => e = .returned (.int .i64 (upE E.D n : Int)) ∧ w = w' := by
  obtain ⟨v, Ts, Tf, Ti, h⟩ := h
  have c1 := h.own.c1
  have hr := h.own.re
  cases n with
  | zero =>
    have e0 : upE E.D 0 = 0 := rfl
    rw [e0]
    clear h hr c1
    go_enter Tryz.func259, Tryz.ntmps259
    go_wp2
    go_ret
    exact ⟨rfl, rfl⟩
  | succ k =>
    rcases hr.2 with ⟨_, h0⟩ | ⟨b, cap, cur, hv, _⟩
    · omega
    · rw [hv] at c1 hr
      have g0 : w.cell? ⟨b, k, none⟩ = some (.int .i64 (upE E.D (k + 1) : Nat)) := by
        have := hr.cellAt k (by omega)
        rw [this, List.getElem?_map, endsL_get E.D k (by omega)]
        rfl
      obtain ⟨u, hu⟩ : ∃ u, u = upE E.D (k + 1) := ⟨_, rfl⟩
      obtain ⟨m, hm⟩ : ∃ m, m = E.D.length := ⟨_, rfl⟩
      rw [← hu] at g0 ⊢
      have hd := h.ok.d
      rw [← hm] at c1 hn hd
      have hkI : (k : Int) < (m : Int) := by omega
      have hks : (k : Int) + 1 - 1 = (k : Int) := by omega
      have hk0 : ((k : Int) + 1 == 0) = false := by simp; omega
      rw [show ((k + 1 : Nat) : Int) = (k : Int) + 1 by omega]
      clear h hr hv hu hm
      go_enter Tryz.func259, Tryz.ntmps259
      go_wp2
      go_ret
      exact ⟨rfl, rfl⟩
end
end Go.Proofs.YtifnkmddinoneaaGreatDoor
