/- Layer 6: rows that may be nil, appended to. Condition: the row is nil, or one of the call's own. -/
import Derived.Test.YtjmbmhjhnoiclaaS6V
import Derived.Maps.AppendAt
namespace Go.Proofs.Ytjmbmhjhnoiclaa
open Go.RowKit
set_option linter.unusedVariables false

/-- nil, or a row of one's own in a block from base on. -/
def Ro (w : World) (base : Nat) (A : Option Addr) (c : Nat) (X : List Int) : Prop := (A = none ∧ c = 0 ∧ X = []) ∨ ∃ b, A = some ⟨b, 0, none⟩ ∧ base ≤ b ∧ Ow w b X c
theorem Ro.far {w w' : World} {base : Nat} {A : Option Addr} {c : Nat} {X : List Int} (h : Ro w base A c X) (k : Mod [] w w') : Ro w' base A c X := by
  rcases h with h | ⟨b, h1, h2, h3⟩
  · exact Or.inl h
  · exact Or.inr ⟨b, h1, h2, h3.mod k (by simp)⟩
theorem Ro.sl {w : World} {base : Nat} {A : Option Addr} {c : Nat} {X : List Int} (h : Ro w base A c X) : Sl w A X := by
  rcases h with ⟨rfl, _, rfl⟩ | ⟨b, rfl, _, h3⟩
  · exact Sl.nil _ _
  · exact h3.sl
theorem run_appN {w : World} {base : Nat} {A : Option Addr} {c : Nat} {X : List Int} (h : Ro w base A c X) (hbase : base ≤ w.heap.size) {B : Option Addr} {Y : List Int} (hs : Sl w B Y) (ty : TypeId) (n cap : Nat) (hn : n = Y.length) (hB : B = none → cap = 0) (hb : X.length + Y.length ≤ 1000000000) :
    ∃ A' c' w', (Builtin.append_ #[27, 27] ty #[.slice A X.length c, .slice B n cap]).run Try.prog w = .ok (.slice A' (X ++ Y).length c') w' ∧ Ro w' base A' c' (X ++ Y) ∧ Below base w w' := by
  rcases h with ⟨rfl, rfl, rfl⟩ | ⟨b, rfl, hbb, ho⟩
  · subst hn
    obtain ⟨i, hi, hz0, hz1, hz2⟩ := info_parts Try.infoCell
    have hown : w.ownsRow w.heap.size 31 1 (.slice none 0 0) 0 [] := ⟨rfl, .inl ⟨rfl, rfl⟩⟩
    have hm : maxLen = 9223372036854775807 := rfl
    cases B with
    | none =>
      have hY : Y = [] := List.eq_nil_of_length_eq_zero (by
        refine Nat.eq_zero_of_not_pos fun hp => ?_
        obtain ⟨_, _, e, _⟩ := hs 0 hp
        cases e)
      subst hY
      have hcap := hB rfl
      subst hcap
      exact ⟨none, 0, w, run_append_owned_none (P := Try.prog) (w := w) w.heap.size 27 ty 31 i 1 Try.underlying27 hi _ _ _ hown, Or.inl ⟨rfl, rfl, rfl⟩, Below.refl _ _⟩
    | some a =>
      obtain ⟨v', w', h1, h2, h3, h4⟩ := run_append_own (P := Try.prog) w w.heap.size 27 ty 31 i (.int .i64 0) 1 8 Try.underlying27 hi hz0 hz1 hz2 rfl (by decide) _ _ _ hown a Y.length cap (cellsI Y) (by simp [cellsI]) hs.src (one_cells Y) (by simp at hb; omega) (by simp at hb; omega) (Nat.le_refl _)
      have hbel : Below base w w' := ⟨h3.os, h3.tape, h3.output, h3.size, fun k hk => h3.block k (Nat.lt_of_lt_of_le hk hbase) (fun e => by cases e)⟩
      obtain ⟨ho1, ho2⟩ := h2
      rcases ho2 with ⟨e, e0⟩ | ⟨g, cp, cur, e, hbg, hg, k3, k4, k5, k6⟩
      · have hY : Y = [] := List.eq_nil_of_length_eq_zero (by omega)
        subst hY
        subst e
        exact ⟨none, 0, w', h1, Or.inl ⟨rfl, rfl, rfl⟩, hbel⟩
      · subst e
        refine ⟨some ⟨g, 0, none⟩, cp, w', by simpa using h1, Or.inr ⟨g, rfl, Nat.le_trans hbase hbg, cur, hg, by omega, by simpa using k3, k4, ?_⟩, hbel⟩
        simpa [cellsI] using k6
  · obtain ⟨b', c', w', hr, h2, h3, h4⟩ := run_app ho hs ty n cap hn hB hb
    exact ⟨_, c', w', hr, Or.inr ⟨b', rfl, Nat.le_trans hbb h4, h2⟩, ⟨h3.os, h3.tape, h3.output, h3.size, fun k hk => h3.block k (Nat.lt_of_lt_of_le hk hbase) (by simp; omega)⟩⟩
theorem wpList_appN {w : World} {ops : Array Oper} {rest : List Oper} {o : Oper} {a : Act} {Q : Exit → Act → World → Prop} (hgd : o.guard = none) (s x : Operand)
    (ho : o.op = .call { callee := .builtin .append, args := #[s, x], argTypes := #[27, 27] })
    {base : Nat} {R B : Option Addr} {c n0 : Nat} {X Y : List Int} {n cap : Nat} (h : Ro w base R c X) (hbase : base ≤ w.heap.size) (hs : Sl w B Y) (e1 : n0 = X.length) (e2 : n = Y.length) (hA : B = none → cap = 0) (hb : X.length + Y.length ≤ 1000000000)
    (v1 : a.eval s = .slice R n0 c) (v2 : a.eval x = .slice B n cap)
    (hK : ∀ R' c' w', Ro w' base R' c' (X ++ Y) → Below base w w' → wpList Try.prog ops Q rest (a.put o.dst (.slice R' (n0 + n) c')) w') : wpList Try.prog ops Q (o :: rest) a w := by
  subst e1 e2
  obtain ⟨b', c', w', hr, h2, h3⟩ := run_appN h hbase hs o.type Y.length cap rfl hA hb
  refine wpList_plain hgd fun K hk => ?_
  unfold Oper.wp execOp
  simp only [ho, resolve, invoke, builtin, Sem.run_bind, Sem.run_pure, Result.andThen_ok, List.map_toArray, List.map_cons, List.map_nil, v1, v2, hr]
  rw [List.length_append]
  exact hk _ _ (hK b' c' w' h2 h3)
theorem step_appG {ops : Array Oper} {o : Oper} {a : Act} {w : World} {K : Act → World → Prop} {Q : Exit → Act → World → Prop} {E : Prop} {g : Nat × Bool} (hgd : o.guard = some g) (hg : Region.wanted o (yielded ops a.tmps) = true) (s x : Operand)
    (ho : o.op = .call { callee := .builtin .append, args := #[s, x], argTypes := #[27, 27] })
    {base : Nat} {R B : Option Addr} {c n0 : Nat} {X Y : List Int} {n cap : Nat} (h : Ro w base R c X) (hbase : base ≤ w.heap.size) (hs : Sl w B Y) (e1 : n0 = X.length) (e2 : n = Y.length) (hA : B = none → cap = 0) (hb : X.length + Y.length ≤ 1000000000)
    (v1 : a.eval s = .slice R n0 c) (v2 : a.eval x = .slice B n cap)
    (hK : ∀ R' c' w', Ro w' base R' c' (X ++ Y) → Below base w w' → K (a.put o.dst (.slice R' (n0 + n) c')) w') :
    if Region.wanted o (yielded ops a.tmps) = true then Oper.wp Try.prog o a w K Q else E := by
  rw [if_pos hg]
  subst e1 e2
  obtain ⟨b', c', w', hr, h2, h3⟩ := run_appN h hbase hs o.type Y.length cap rfl hA hb
  unfold Oper.wp execOp
  simp only [ho, resolve, invoke, builtin, Sem.run_bind, Sem.run_pure, Result.andThen_ok, List.map_toArray, List.map_cons, List.map_nil, v1, v2, hr]
  rw [List.length_append]
  exact hK b' c' w' h2 h3
theorem Mod.of_base {base : Nat} {W W' : World} (k : Below base W W') : Mod (List.range' base (W.heap.size - base)) W W' :=
  ⟨k.os, k.tape, k.output, k.size, fun i hi hn => k.block i (by simp [List.mem_range'_1] at hn; omega)⟩
theorem Pr.below {w0 W W' : World} {p q base : Nat} {L M : List Int} (h : Pr w0 W p q L M) (k : Below base W W') (hp : p < base) (hq : q < base) (hw : w0.heap.size ≤ base) : Pr w0 W' p q L M :=
  ⟨h.s.mod (Mod.of_base k) (by simp [List.mem_range'_1]; omega), h.t.mod (Mod.of_base k) (by simp [List.mem_range'_1]; omega), h.ne, h.lp, h.lq,
    ⟨k.os.trans h.m.os, k.tape.trans h.m.tape, k.output.trans h.m.output, Nat.le_trans h.m.size k.size, fun i hi hn => (k.block i (by omega)).trans (h.m.block i hi hn)⟩⟩
/-- w' is w but for the block that A leads to, and new ones. -/
def Sp (A : Option Addr) (w w' : World) : Prop := ∃ S, (∀ i ∈ S, ∃ x, A = some x ∧ x.block = i) ∧ Mod S w w'
theorem Sp.ow {A : Option Addr} {w w' : World} (h : Sp A w w') {b c : Nat} {X : List Int} (ho : Ow w b X c) (hb : ∀ x, A = some x → x.block ≠ b) : Ow w' b X c := by
  obtain ⟨S, hS, hm⟩ := h
  exact ho.mod hm fun hi => by
    obtain ⟨x, hx, e⟩ := hS _ hi
    exact hb x hx e
theorem Sp.cell {A : Option Addr} {w w' : World} (h : Sp A w w') {a : Addr} {v : Value} (hc : w.cell? a = some v) (hb : ∀ x, A = some x → x.block ≠ a.block) : w'.cell? a = some v := by
  obtain ⟨S, hS, hm⟩ := h
  exact hm.cell (fun hi => by
    obtain ⟨x, hx, e⟩ := hS _ hi
    exact hb x hx e) hc
theorem Sp.new {A : Option Addr} {w0 w w' : World} (h : Sp A w w') (m : Mod [] w0 w) (hb : ∀ x, A = some x → w0.heap.size ≤ x.block) : Mod [] w0 w' := by
  obtain ⟨S, hS, hm⟩ := h
  exact m.then hm fun i hi => Or.inr (by
    obtain ⟨x, hx, e⟩ := hS _ hi
    rw [← e]
    exact hb x hx)
theorem Ro.zero {w : World} {base : Nat} {A : Option Addr} {c : Nat} {X : List Int} (h : Ro w base A c X) : Ro w 0 A c X := by
  rcases h with h | ⟨b, h1, h2, h3⟩
  · exact Or.inl h
  · exact Or.inr ⟨b, h1, Nat.zero_le _, h3⟩
theorem Ro.base {w : World} {base : Nat} {A : Option Addr} {c : Nat} {X : List Int} (h : Ro w base A c X) : ∀ y, A = some y → base ≤ y.block := fun y hy => by
  rcases h with ⟨h, _⟩ | ⟨b, h1, h2, h3⟩
  · rw [h] at hy; cases hy
  · rw [h1] at hy; injection hy with hy; subst hy; exact h2
theorem Ro.lt {w : World} {base : Nat} {A : Option Addr} {c : Nat} {X : List Int} (h : Ro w base A c X) : ∀ y, A = some y → y.block < w.heap.size := fun y hy => by
  rcases h with ⟨h, _⟩ | ⟨b, h1, h2, h3⟩
  · rw [h] at hy; cases hy
  · rw [h1] at hy; injection hy with hy; subst hy; exact h3.lt
theorem same_true {w : World} {A B : Option Addr} {n m c d : Nat} {X Y : List Int} (hs : Sl w A X) (ht : Sl w B Y) (hn : n = X.length) (hm : m = Y.length) (e : X = Y) (hb : X.length ≤ 9223372036854775807) :
    Calls Try.prog 15 #[.slice A n c, .slice B m d] w fun e w' => e = .returned (.bool true) ∧ Mod [] w w' := by
  subst e
  refine (same_calls hs ht hn hm hb hb).mono ?_
  rintro e w' ⟨h, k⟩
  rw [decide_eq_true rfl] at h
  exact ⟨h, k⟩
theorem Sp.pr {A : Option Addr} {w0 w w' : World} {p q : Nat} {L M : List Int} (h : Sp A w w') (P : Pr w0 w p q L M) (hb : ∀ x, A = some x → x.block ≠ p ∧ x.block ≠ q ∧ w0.heap.size ≤ x.block) : Pr w0 w' p q L M := by
  obtain ⟨S, hS, hm⟩ := h
  refine ⟨P.s.mod hm fun hi => ?_, P.t.mod hm fun hi => ?_, P.ne, P.lp, P.lq, P.m.then hm fun i hi => Or.inr ?_⟩
  · obtain ⟨x, hx, e⟩ := hS _ hi
    exact (hb x hx).1 e
  · obtain ⟨x, hx, e⟩ := hS _ hi
    exact (hb x hx).2.1 e
  · obtain ⟨x, hx, e⟩ := hS _ hi
    rw [← e]
    exact (hb x hx).2.2
set_option maxHeartbeats 2000000 in
theorem run_appP {w : World} {A : Option Addr} {c : Nat} {X : List Int} (h : Ro w 0 A c X) {B : Option Addr} {Y : List Int} (hs : Sl w B Y) (ty : TypeId) (n cap : Nat) (hn : n = Y.length) (hB : B = none → cap = 0) (hb : X.length + Y.length ≤ 1000000000) :
    ∃ A' c' w', (Builtin.append_ #[27, 27] ty #[.slice A X.length c, .slice B n cap]).run Try.prog w = .ok (.slice A' (X ++ Y).length c') w' ∧ Ro w' 0 A' c' (X ++ Y) ∧ Sp A w w' ∧ (∀ x, A' = some x → A = some x ∨ x.block = w.heap.size) := by
  subst hn
  obtain ⟨i, hi, hz0, hz1, hz2⟩ := info_parts Try.infoCell
  have hm : maxLen = 9223372036854775807 := rfl
  have hown : w.ownsRow 0 31 1 (.slice A X.length c) X.length (cellsI X) := by
    rcases h with ⟨rfl, rfl, rfl⟩ | ⟨b, rfl, _, ho⟩
    · have h0 : w.ownsRow 0 31 1 (.slice none 0 0) 0 [] := ⟨rfl, .inl ⟨rfl, rfl⟩⟩
      exact h0
    · obtain ⟨cur, h1, h2, h3, h4, h5⟩ := ho
      exact ⟨by simp [cellsI], .inr ⟨b, c, cur, rfl, Nat.zero_le _, h1, h3, h4, by omega, by simpa using h5⟩⟩
  cases B with
  | none =>
    have hY : Y = [] := List.eq_nil_of_length_eq_zero (by
      refine Nat.eq_zero_of_not_pos fun hp => ?_
      obtain ⟨_, _, e, _⟩ := hs 0 hp
      cases e)
    subst hY
    have hcap := hB rfl
    subst hcap
    refine ⟨A, c, w, ?_, by rw [List.append_nil]; exact h, ⟨[], by simp, Mod.refl _ _⟩, fun x hx => Or.inl hx⟩
    rw [List.append_nil]
    exact run_append_owned_none (P := Try.prog) (w := w) 0 27 ty 31 i 1 Try.underlying27 hi _ _ _ hown
  | some a =>
    obtain ⟨v', w', h1, h2, h3, h4, h5⟩ := run_append_own_at (P := Try.prog) w 0 27 ty 31 i (.int .i64 0) 1 8 Try.underlying27 hi hz0 hz1 hz2 rfl (by decide) _ _ _ hown a Y.length cap (cellsI Y) (by simp [cellsI]) hs.src (one_cells Y) (by omega) (by omega) (Nat.zero_le _)
    have hsp : Sp A w w' := by
      refine ⟨match A with | some x => [x.block] | none => [], ?_, Mod.of_grown h3 ?_⟩
      · cases A with
        | none => simp
        | some x => simp
      · intro k hk
        cases A with
        | none => cases hk
        | some x => simp [Value.ownBlock] at hk; simp [hk]
    obtain ⟨ho1, ho2⟩ := h2
    rcases ho2 with ⟨e, e0⟩ | ⟨g, cp, cur, e, hbg, hg, k3, k4, k5, k6⟩
    · subst e
      have hX : X = [] := List.eq_nil_of_length_eq_zero (by omega)
      have hY : Y = [] := List.eq_nil_of_length_eq_zero (by omega)
      subst hX hY
      exact ⟨none, 0, w', h1, Or.inl ⟨rfl, rfl, rfl⟩, hsp, by simp⟩
    · subst e
      refine ⟨some ⟨g, 0, none⟩, cp, w', by rw [List.length_append]; exact h1, Or.inr ⟨g, rfl, Nat.zero_le _, cur, hg, by omega, by rw [List.length_append]; exact k3, k4, ?_⟩, hsp, fun x hx => ?_⟩
      · rw [List.length_append]
        simpa [cellsI] using k6
      · injection hx with hx
        subst hx
        rcases h5 with h5 | h5
        · rcases h with ⟨rfl, _, _⟩ | ⟨b, rfl, _, _⟩
          · cases h5
          · simp [Value.ownBlock] at h5
            subst h5
            exact Or.inl rfl
        · simp [Value.ownBlock] at h5
          exact Or.inr h5
theorem step_appP {ops : Array Oper} {o : Oper} {a : Act} {w : World} {K : Act → World → Prop} {Q : Exit → Act → World → Prop} {E : Prop} (hg : Region.wanted o (yielded ops a.tmps) = true) (s x : Operand)
    (ho : o.op = .call { callee := .builtin .append, args := #[s, x], argTypes := #[27, 27] })
    {A B : Option Addr} {c n0 : Nat} {X Y : List Int} {n cap : Nat} (h : Ro w 0 A c X) (hs : Sl w B Y) (e1 : n0 = X.length) (e2 : n = Y.length) (hA : B = none → cap = 0) (hb : X.length + Y.length ≤ 1000000000)
    (v1 : a.eval s = .slice A n0 c) (v2 : a.eval x = .slice B n cap)
    (hK : ∀ A' c' w', Ro w' 0 A' c' (X ++ Y) → Sp A w w' → (∀ x, A' = some x → A = some x ∨ x.block = w.heap.size) → K (a.put o.dst (.slice A' (n0 + n) c')) w') :
    if Region.wanted o (yielded ops a.tmps) = true then Oper.wp Try.prog o a w K Q else E := by
  rw [if_pos hg]
  subst e1 e2
  obtain ⟨b', c', w', hr, h2, h3, h4⟩ := run_appP h hs o.type Y.length cap rfl hA hb
  unfold Oper.wp execOp
  simp only [ho, resolve, invoke, builtin, Sem.run_bind, Sem.run_pure, Result.andThen_ok, List.map_toArray, List.map_cons, List.map_nil, v1, v2, hr]
  rw [List.length_append]
  exact hK b' c' w' h2 h3 h4
end Go.Proofs.Ytjmbmhjhnoiclaa
