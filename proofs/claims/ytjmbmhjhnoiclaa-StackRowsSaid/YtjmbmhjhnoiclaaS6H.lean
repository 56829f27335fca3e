/- Layer 6: the document's stack: a row of cells that is made anew whenever it grows. Condition: block q is such a stack (Rf), apart from block p. -/
import Derived.Test.YtjmbmhjhnoiclaaS6G
namespace Go.Proofs.Ytjmbmhjhnoiclaa
open Go.RowKit
set_option linter.unusedVariables false

/-- Block q of w holds the row of cells X, which lies neither in q nor in p. -/
structure Rf (w : World) (p q : Nat) (X : List Int) (A : Option Addr) (cap : Nat) : Prop where
  c : w.cell? ⟨q, 0, none⟩ = some (.slice A X.length cap)
  s : Sl w A X
  a : A = none → cap = 0
  b : ∀ x, A = some x → x.block ≠ p ∧ x.block ≠ q ∧ x.block < w.heap.size
  f : w.frozen? ⟨q, 0, none⟩ = false
  lq : q < w.heap.size
  ne : q ≠ p
  n : X.length ≤ 128
  m : X.length ≤ cap
  i : ∀ x ∈ X, I64 x
theorem Rf.mod {S : List Nat} {w w' : World} {p q : Nat} {X : List Int} {A : Option Addr} {cap : Nat} (h : Rf w p q X A cap) (k : Mod S w w') (hq : q ∉ S) (hA : ∀ x, A = some x → x.block ∉ S) : Rf w' p q X A cap :=
  ⟨k.cell hq h.c, h.s.mod k hA, h.a, fun x hx => ⟨(h.b x hx).1, (h.b x hx).2.1, Nat.lt_of_lt_of_le (h.b x hx).2.2 k.size⟩, (k.frozen hq h.lq).trans h.f, Nat.lt_of_lt_of_le h.lq k.size, h.ne, h.n, h.m, h.i⟩
theorem Rf.far {w w' : World} {p q : Nat} {X : List Int} {A : Option Addr} {cap : Nat} (h : Rf w p q X A cap) (k : Mod [] w w') : Rf w' p q X A cap := h.mod k (by simp) (by simp)
/-- What the program's stack does leaves the document's. -/
theorem Rf.prog {w w' : World} {p q : Nat} {X : List Int} {A : Option Addr} {cap : Nat} (h : Rf w p q X A cap) (k : Mod [p] w w') : Rf w' p q X A cap :=
  h.mod k (by simpa using h.ne) (fun x hx => by simpa using (h.b x hx).1)
/-- Another row in block q. -/
theorem Rf.set {w : World} {p q : Nat} {X Y : List Int} {A : Option Addr} {cap : Nat} (h : Rf w p q X A cap) {b c : Nat} (ho : Ow w b Y c) (hp : b ≠ p) (hq : b ≠ q) (hn : Y.length ≤ 128) (hI : ∀ x ∈ Y, I64 x) :
    Rf (w.setCell ⟨q, 0, none⟩ (.slice (some ⟨b, 0, none⟩) Y.length c)) p q Y (some ⟨b, 0, none⟩) c := by
  have k := (Mod.refl [q] w).one (p := q) (by simp) 0 (.slice (some ⟨b, 0, none⟩) Y.length c)
  have ho' := ho.mod k (by simpa using hq)
  refine ⟨World.cell?_setCell_same _ _ _ (h := h.c), ho'.sl, by simp, ?_, (World.frozen?_setCell _ _ _ _).trans h.f, by simpa [World.setCell] using h.lq, h.ne, hn, ?_, hI⟩
  · intro x hx
    injection hx with hx
    subst hx
    exact ⟨hp, hq, ho'.lt⟩
  · obtain ⟨cur, _, h2, h3, _⟩ := ho'
    omega
/-- The row's head alone stays. -/
theorem Rf.upto {w : World} {p q : Nat} {X : List Int} {A : Option Addr} {cap : Nat} (h : Rf w p q X A cap) (k : Nat) (hk : k ≤ X.length) : Rf (w.setCell ⟨q, 0, none⟩ (.slice A k cap)) p q (X.take k) A cap := by
  have hl : (X.take k).length = k := by simp; omega
  have kk := (Mod.refl [q] w).one (p := q) (by simp) 0 (.slice A k cap)
  refine ⟨by rw [hl]; exact World.cell?_setCell_same _ _ _ (h := h.c), (h.s.mod kk (fun x hx => by simpa using (h.b x hx).2.1)).take k, h.a, fun x hx => ⟨(h.b x hx).1, (h.b x hx).2.1, Nat.lt_of_lt_of_le (h.b x hx).2.2 kk.size⟩, (World.frozen?_setCell _ _ _ _).trans h.f, by simpa [World.setCell] using h.lq, h.ne, by rw [hl]; have := h.n; omega, by rw [hl]; have := h.m; omega, fun x hx => h.i x (List.mem_of_mem_take hx)⟩
/-- f answers v; the document's stack then is Y; nothing else turned. -/
def RTurns (p q : Nat) (w : World) (v : Value) (Y : List Int) (e : Ending) (w' : World) : Prop := e = .returned v ∧ (∃ A cap, Rf w' p q Y A cap) ∧ Mod [q] w w'
/-- On the way: block b is a row of the call's own, of the cells Y; the document's stack is as it was. -/
structure Wk (w : World) (p q : Nat) (X : List Int) (A : Option Addr) (cap : Nat) (W : World) (b : Nat) (Y : List Int) (c : Nat) : Prop where
  r : Rf W p q X A cap
  o : Ow W b Y c
  m : Mod [] w W
  l : w.heap.size ≤ b
  lp : p < w.heap.size
  lq : q < w.heap.size
  la : ∀ x, A = some x → x.block < w.heap.size
theorem Wk.start {w : World} {p q : Nat} {X : List Int} {A : Option Addr} {cap : Nat} (h : Rf w p q X A cap) (hp : p < w.heap.size) : Wk w p q X A cap (w.alloc (.cells #[] 31)) w.heap.size [] 0 :=
  ⟨h.far ((Mod.refl [] w).alloc _), Ow.new w [] (Nat.zero_le _), (Mod.refl [] w).alloc _, Nat.le_refl _, hp, h.lq, fun x hx => (h.b x hx).2.2⟩
theorem Wk.far {w : World} {p q : Nat} {X : List Int} {A : Option Addr} {cap : Nat} {W W' : World} {b : Nat} {Y : List Int} {c : Nat} (h : Wk w p q X A cap W b Y c) (k : Mod [] W W') : Wk w p q X A cap W' b Y c :=
  ⟨h.r.far k, h.o.mod k (by simp), h.m.far k, h.l, h.lp, h.lq, h.la⟩
theorem Wk.app {w : World} {p q : Nat} {X : List Int} {A : Option Addr} {cap : Nat} {W W' : World} {b b' : Nat} {Y Z : List Int} {c c' : Nat} (h : Wk w p q X A cap W b Y c) (o : Ow W' b' Z c') (k : Mod [b] W W') (l : b ≤ b') : Wk w p q X A cap W' b' Z c' :=
  ⟨h.r.mod k (by have := h.lq; have := h.l; simp; omega) (fun x hx => by have := h.la x hx; have := h.l; simp; omega), o, h.m.far1 k h.l, Nat.le_trans h.l l, h.lp, h.lq, h.la⟩
theorem Wk.one {w : World} {p q : Nat} {X : List Int} {A : Option Addr} {cap : Nat} {W : World} {b : Nat} {Y : List Int} {c : Nat} (h : Wk w p q X A cap W b Y c) (x : Int) : Wk w p q X A cap (W.alloc (.cells #[.int .i64 x] 31)) b Y c ∧ Sl (W.alloc (.cells #[.int .i64 x] 31)) (some ⟨W.heap.size, 0, none⟩) [x] :=
  ⟨h.far ((Mod.refl [] W).alloc _), (Ow.new W [x] (by unfold maxLen; simp)).sl⟩
theorem Wk.fin {w : World} {p q : Nat} {X : List Int} {A : Option Addr} {cap : Nat} {W : World} {b : Nat} {Y : List Int} {c : Nat} (h : Wk w p q X A cap W b Y c) (hn : Y.length ≤ 128) (hI : ∀ x ∈ Y, I64 x) {m : Nat} (e : m = Y.length) :
    (∃ A cap, Rf (W.setCell ⟨q, 0, none⟩ (.slice (some ⟨b, 0, none⟩) m c)) p q Y A cap) ∧ Mod [q] w (W.setCell ⟨q, 0, none⟩ (.slice (some ⟨b, 0, none⟩) m c)) := by
  subst e
  have := h.lp; have := h.lq; have := h.l
  exact ⟨⟨_, _, h.r.set h.o (by omega) (by omega) hn hI⟩, (h.m.up (by simp)).one (by simp) 0 _⟩
set_option maxHeartbeats 1000000 in
set_option maxRecDepth 10000 in
theorem rpush_ok {w : World} {p q : Nat} {X : List Int} {A : Option Addr} {cap : Nat} (h : Rf w p q X A cap) (hp : p < w.heap.size) (x : Int) (hx : I64 x) (hb : X.length < 128) :
    Calls Try.prog 25 #[Pt q, .int .i64 x] w (RTurns p q w (.int .i64 0) (X ++ [x])) := by
  have hc := h.c
  have k1 := Wk.start h hp
  have hc1 := k1.r.c
  obtain ⟨n, hn⟩ : ∃ n, n = X.length := ⟨_, rfl⟩
  rw [← hn] at hc hc1
  have K1 := Lib.hid k1
  have HN := Lib.hid hn
  have hb2 : ¬ (128 : Int) ≤ (n : Int) := by omega
  have HI := Lib.hid (all_app h.i (show ∀ y ∈ [x], I64 y by simpa using hx))
  have hn2 : n + 1 ≤ 128 := by omega
  clear h k1 hn hb
  go_enter Try.func25, Try.ntmps25
  go_wp2_with (refine wpList_app rfl (.tmp 12) (.tmp 16) rfl K1.out.o K1.out.r.s rfl HN.out K1.out.r.a (by have := K1.out.r.n; simp; omega) rfl rfl ?_)
  intro b2 c2 W2 o2 m2 l2
  have k2 := K1.out.app o2 m2 l2
  obtain ⟨k3, s3⟩ := k2.one x
  have hc3 := k3.r.c
  have hf3 := k3.r.f
  rw [← HN.out] at hc3
  have K3 := Lib.hid k3
  have S3 := Lib.hid s3
  clear K1 o2 m2 l2 k2 k3 s3
  go_wp2_with (refine wpList_app rfl (.tmp 17) (.tmp 19) rfl K3.out.o S3.out HN.out rfl (by simp) (by have := K3.out.r.n; simp; omega) rfl rfl ?_)
  intro b4 c4 W4 o4 m4 l4
  have k4 := K3.out.app o4 m4 l4
  have hc4 := k4.r.c
  have hf4 := k4.r.f
  have HF := Lib.hid (k4.fin (by simp; have := HN.out; omega) HI.out (m := n + 1) (by simp [HN.out]))
  clear K3 S3 o4 m4 l4 k4
  go_wp2
  go_ret
  exact ⟨rfl, HF.out⟩
end Go.Proofs.Ytjmbmhjhnoiclaa
