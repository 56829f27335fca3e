/- Layer 9 (package rhytonref09): the document's Add. Condition: the block is such a dictionary (Rd9). -/
import Derived.Test.YtldnpppbnakcoaaD9E
namespace Go.Proofs.Ytldnpppbnakcoaa
open Go.RowKit
set_option linter.unusedVariables false

theorem infoOne9 : (Try.prog.info? 76).map (fun i => (i.zero, i.size, i.bytes)) = some (some (.agg #[.string ⟨#[]⟩, .int .i64 0, .bool false, .int .i64 0]), 4, 40) := by kernel_rfl
/-- A row that is new: what is copied into it. -/
theorem run_copyW {w : World} {b : Nat} (hb : w.ownsRow 0 76 4 (.slice (some ⟨b, 0, none⟩) 0 0) 0 []) {v : Value} {L : List We} (h : w.ownsRow 0 76 4 v L.length (flatsW L)) (hl : L.length ≤ 2000) (ty : TypeId) :
    ∃ A n c w', (Builtin.append_ #[36, 36] ty #[.slice (some ⟨b, 0, none⟩) 0 0, v]).run Try.prog w = .ok (.slice A n c) w' ∧ w'.ownsRow 0 76 4 (.slice A n c) L.length (flatsW L) ∧ Mod [b] w w' ∧ ((Value.slice A n c).ownBlock = some b ∨ (Value.slice A n c).ownBlock = some w.heap.size) := by
  obtain ⟨i, hi, hz0, hz1, hz2⟩ := info_parts infoOne9
  have hm : maxLen = 9223372036854775807 := rfl
  rcases h.2 with ⟨rfl, h0⟩ | ⟨g, cap, cur, rfl, hrest⟩
  · have hL : L = [] := List.eq_nil_of_length_eq_zero h0
    subst hL
    exact ⟨_, _, _, w, run_append_owned_none (P := Try.prog) (w := w) 0 36 ty 76 i 4 Try.underlying36 hi _ _ _ hb, hb, Mod.refl _ _, Or.inl rfl⟩
  · obtain ⟨v', w', h1, h2, h3, h4, h5⟩ := run_append_own_at (P := Try.prog) w 0 36 ty 76 i _ 4 40 Try.underlying36 hi hz0 hz1 hz2 rfl (by decide) _ _ _ hb ⟨g, 0, none⟩ L.length cap (flatsW L) (flatsW_len L) (fun j u hj => World.ownsRow.cells h rfl j u hj) (fun u hu => flatsW_cells L u hu) (by omega) (by omega) (Nat.zero_le _)
    rw [Nat.zero_add, List.nil_append] at h2
    have h2' := h2
    rcases h2.2 with ⟨e, _⟩ | ⟨g', cp, cur', e, _⟩
    · have := (h4.1 e).1
      cases this
    · subst e
      exact ⟨_, _, _, w', h1, h2', Mod.of_grown h3 (by simp [Value.ownBlock]), h5⟩
theorem run_addW {w : World} {v : Value} {L : List We} (h : w.ownsRow 0 76 4 v L.length (flatsW L)) (hl : L.length ≤ 2000) (x : We) (a : Addr) (cp : Nat) (hc : ∀ j u, (flatW x)[j]? = some u → w.cell? (a.add j) = some u) (ty : TypeId) :
    ∃ A n c w', (Builtin.append_ #[36, 36] ty #[v, .slice (some a) 1 cp]).run Try.prog w = .ok (.slice A n c) w' ∧ w'.ownsRow 0 76 4 (.slice A n c) (L ++ [x]).length (flatsW (L ++ [x])) ∧ Mod v.ownBlock.toList w w' ∧ ((Value.slice A n c).ownBlock = v.ownBlock ∨ (Value.slice A n c).ownBlock = some w.heap.size) := by
  obtain ⟨i, hi, hz0, hz1, hz2⟩ := info_parts infoOne9
  have hm : maxLen = 9223372036854775807 := rfl
  obtain ⟨v', w', h1, h2, h3, _, h5⟩ := run_append_own_at (P := Try.prog) w 0 36 ty 76 i _ 4 40 Try.underlying36 hi hz0 hz1 hz2 rfl (by decide) _ _ _ h a 1 cp (flatW x) rfl hc (fun u hu => flatsW_cells [x] u (by rw [flatsW_one]; exact hu)) (by omega) (by omega) (Nat.zero_le _)
  have e : (L ++ [x]).length = L.length + 1 := by simp
  have h2' : w'.ownsRow 0 76 4 v' (L ++ [x]).length (flatsW (L ++ [x])) := by rw [e, flatsW_app, flatsW_one]; exact h2
  obtain ⟨A', n', cap', rfl⟩ : ∃ A' n' cap', v' = .slice A' n' cap' := by
    rcases h2.2 with ⟨rfl, _⟩ | ⟨g, cp, cur, rfl, _⟩
    · exact ⟨_, _, _, rfl⟩
    · exact ⟨_, _, _, rfl⟩
  exact ⟨_, _, _, w', h1, h2', Mod.of_grown h3 (by simp), h5⟩
/-- An append of words of the document's: a name, so that the walk lays nothing open. -/
def appWord (ty : TypeId) (xs : Array Value) : Sem Value := Builtin.append_ #[36, 36] ty xs
@[go_sem ↓ high] theorem builtin_appWord (ty : TypeId) (cs : Array Bool) (xs : Array Value) : builtin .append #[36, 36] ty cs xs = (do pure (.value (← appWord ty xs))) := rfl
theorem one_newW (W : World) (x : We) : ∀ j u, (flatW x)[j]? = some u → (W.alloc (.cells (flatW x).toArray 76)).cell? ((⟨W.heap.size, 0, none⟩ : Addr).add j) = some u := fun j u hj => by
  have hb : (W.alloc (.cells (flatW x).toArray 76)).heap[W.heap.size]? = some (.cells (flatW x).toArray 76) := (MapKept.heap_alloc W _).1
  rw [WideShapes.add_plain, Nat.zero_add, ← hj]
  simp only [World.cell?, hb]
  simp
theorem row_newW (W : World) : (W.alloc (.cells #[] 76)).ownsRow 0 76 4 (.slice (some ⟨W.heap.size, 0, none⟩) 0 0) 0 [] := by
  have := World.ownsRow_lit (base := 0) (e := 76) (size := 4) W #[] 0 (Nat.zero_le _) (Nat.zero_le _) rfl
  simpa using this
theorem RdV.setW {w w' : World} {q : Nat} {v v' u : Value} {D : Di} {W : List We} (h : RdV w q v u D) (m : Mod [] w w') (hr : w'.ownsRow 0 76 4 v' W.length (flatsW W)) (hg : ∀ g, v'.ownBlock = some g → w.heap.size ≤ g) (hn : ∀ a ∈ W, a.n.length ≤ 31) (hW : W.length ≤ 2000) :
    RdV (w'.setCell ⟨q, 0, none⟩ v') q v' u { D with W := W } ∧ TurnD (blocksD q v u) (blocksD q v' u) w (w'.setCell ⟨q, 0, none⟩ v') := by
  have h2 := h.mod m (by simp)
  have hm : Mod [q] w' (w'.setCell ⟨q, 0, none⟩ v') := (Mod.refl [q] w').set (x := ⟨q, 0, none⟩) (Or.inl (by simp)) _
  have o : ∀ i, i ≠ 0 → (w'.setCell ⟨q, 0, none⟩ v').cell? ⟨q, i, none⟩ = w'.cell? ⟨q, i, none⟩ := fun i hi => by rw [World.cell?_setCell_other (h := by intro e; injection e with _ e; exact hi e.symm)]
  have sv : v'.ownBlock ≠ some q := fun e => by have := hg q e; have := h.lp; omega
  refine ⟨⟨World.cell?_setCell_same _ _ _ (h := h2.c0), (o 1 (by omega)).trans h2.c1, (o 2 (by omega)).trans h2.c2, (o 3 (by omega)).trans h2.c3, fun i => (World.frozen?_setCell _ _ _ _).trans (h2.f i), Nat.lt_of_lt_of_le h2.lp hm.size, rowD_mod hr hm fun g hg hp => sv (by rw [hg]; simpa using hp), rowD_mod h2.ru hm fun g hg hp => h.su (by rw [hg]; simpa using hp), sv, h.su, fun g hg2 hv => ?_, hn, hW, h.do_, h.dk⟩, (m.up (by simp)).trans (hm.up (by simp [blocksD])), fun x hx => ?_⟩
  · have h3 := hg g hv
    have h4 := (World.ownsRow.lt h.ru g hg2).2
    omega
  · rcases List.mem_cons.1 hx with rfl | hx
    · exact Or.inl (by simp [blocksD])
    · rcases List.mem_append.1 hx with hx | hx
      · exact Or.inr (hg x (by simpa using hx))
      · exact Or.inl (by simp [blocksD] at hx ⊢; exact Or.inr (Or.inr hx))
/-- What Add answers and leaves. -/
def addR (D : Di) (s : List UInt8) (x : Int) : Int × Di := if s.length = 0 then (-16, D) else if 31 < s.length then (-19, D) else if 2000 ≤ D.W.length then (-8, D) else (0, { D with W := D.W ++ [⟨s, x, false, D.c⟩] })
theorem add_no {w : World} {q : Nat} {T : List Nat} {D : Di} (h : Rd9 w q T D) (s : List UInt8) (x : Int) (hs : s.length ≤ 4611686018427387904) (hno : s.length = 0 ∨ 31 < s.length ∨ 2000 ≤ D.W.length) :
    Calls Try.prog 30 #[PtD q, .string (str s), .int .i64 x] w (DPlays q T (.int .i64 (addR D s x).1) (addR D s x).2 w) := by
  have HH := Lib.hid h
  obtain ⟨v, u, hv, hT⟩ := h
  obtain ⟨A, cap, rfl, _⟩ := rowD_open hv.rv
  have h0 := hv.c0
  have hd := hv.dw
  obtain ⟨n, hn⟩ : ∃ n, n = D.W.length := ⟨_, rfl⟩
  have hsz := str_size s
  obtain ⟨X, hX⟩ : ∃ X, X = str s := ⟨_, rfl⟩
  rw [← hX] at hsz ⊢
  rw [← hn] at h0 hd hno
  clear hv hT hX
  unfold DPlays
  by_cases h1 : s.length = 0
  · have e : addR D s x = (-16, D) := if_pos h1
    rw [e]
    have hz : X.size = 0 := by omega
    have hzI : (X.size : Int) = 0 := by omega
    clear e hno hn h1 hsz
    go_enter Try.func30, Try.ntmps30
    go_wp2_with fail
    go_ret
    exact ⟨rfl, _, HH.out, TurnD.refl _ _⟩
  · have hz : ¬ (X.size : Int) = 0 := by omega
    have hzb : ((X.size : Int) == 0) = false := by rw [beq_eq_false_iff_ne]; exact hz
    by_cases h2 : 31 < s.length
    · have e : addR D s x = (-19, D) := by unfold addR; rw [if_neg h1, if_pos h2]
      rw [e]
      have h2I : (31 : Int) < (X.size : Int) := by omega
      clear e hno hn h1 h2 hsz
      go_enter Try.func30, Try.ntmps30
      go_wp2_with fail
      go_ret
      exact ⟨rfl, _, HH.out, TurnD.refl _ _⟩
    · have h3 : 2000 ≤ n := by omega
      have e : addR D s x = (-8, D) := by unfold addR; rw [if_neg h1, if_neg h2, if_pos (by rw [← hn]; exact h3)]
      rw [e]
      have h2I : ¬ (31 : Int) < (X.size : Int) := by omega
      have h3I : (2000 : Int) ≤ (n : Int) := by omega
      clear e hno hn h1 h2 hsz h3
      go_enter Try.func30, Try.ntmps30
      go_wp2_with fail
      go_ret
      exact ⟨rfl, _, HH.out, TurnD.refl _ _⟩
set_option maxHeartbeats 8000000 in
theorem add_ok {w : World} {q : Nat} {T : List Nat} {D : Di} (h : Rd9 w q T D) (s : List UInt8) (x : Int) (h1s : 1 ≤ s.length) (hs : s.length ≤ 31) (hl : D.W.length < 2000) :
    Calls Try.prog 30 #[PtD q, .string (str s), .int .i64 x] w (DPlays q T (.int .i64 0) { D with W := D.W ++ [⟨s, x, false, D.c⟩] } w) := by
  obtain ⟨v, u, h, rfl⟩ := h
  have HH := Lib.hid h
  obtain ⟨A, cap, rfl, _⟩ := rowD_open h.rv
  have h0 := h.c0
  have h3 := h.c3
  have hf0 := h.f 0
  have hsz := str_size s
  obtain ⟨n, hn⟩ : ∃ n, n = D.W.length := ⟨_, rfl⟩
  obtain ⟨X, hX⟩ : ∃ X, X = str s := ⟨_, rfl⟩
  obtain ⟨c, hc⟩ : ∃ c, c = D.c := ⟨_, rfl⟩
  rw [← hX] at hsz ⊢
  rw [← hn] at h0 hl
  rw [← hc] at h3
  have hz : ¬ (X.size : Int) = 0 := by omega
  have hzb : ((X.size : Int) == 0) = false := by rw [beq_eq_false_iff_ne]; exact hz
  have h2I : ¬ (31 : Int) < (X.size : Int) := by omega
  have h3I : ¬ (2000 : Int) ≤ (n : Int) := by omega
  have hsl := hs
  have HNX := Lib.hid (And.intro hn (And.intro hX hc))
  rw [← hn]
  clear h hs h1s hsz hn hX hc
  unfold DPlays
  go_enter Try.func30, Try.ntmps30
  go_upto_region 7 with fail
  have K := HH.out
  have ef : (flatW ⟨s, x, false, D.c⟩).toArray = #[.string X, .int .i64 x, .bool false, .int .i64 c] := by rw [HNX.out.2.1, HNX.out.2.2]; rfl
  have hL8 : D.W.length ≤ 2000 := K.dw
  have al : ∀ (Y : World) (o : Obj), Mod [] Y (Y.alloc o) := fun Y o => (Mod.refl [] Y).alloc o
  have dr : ∀ Y : World, Mod [] Y Y.drew := fun Y => (Mod.refl [] Y).drew
  have base : ∀ (Y : World), Mod [] w Y → ∀ b, w.heap.size ≤ b → Y.ownsRow 0 76 4 (.slice (some ⟨b, 0, none⟩) 0 0) 0 [] →
      ∃ A1 n1 c1 w1, (Builtin.append_ #[36, 36] 36 #[.slice (some ⟨b, 0, none⟩) 0 0, .slice A n cap]).run Try.prog Y = .ok (.slice A1 n1 c1) w1 ∧ Mod [] w w1 ∧ Mod [b] Y w1 ∧ w1.ownsRow 0 76 4 (.slice A1 n1 c1) D.W.length (flatsW D.W) ∧ (∀ g, (Value.slice A1 n1 c1).ownBlock = some g → g = b ∨ g = Y.heap.size) := fun Y hY b hb hr => by
    have KY := K.mod hY (by simp)
    obtain ⟨A1, n1, c1, w1, e1, e2, e3, e4⟩ := run_copyW hr KY.rv hL8 36
    rw [← HNX.out.1] at e1
    exact ⟨A1, n1, c1, w1, e1, hY.then e3 (by simpa using hb), e3, e2, fun g hg => e4.elim (fun e => Or.inl (by rw [e] at hg; injection hg with hg; exact hg.symm)) fun e => Or.inr (by rw [e] at hg; injection hg with hg; exact hg.symm)⟩
  have last : ∀ (Y : World), Mod [] w Y → ∀ A1 n1 c1, Y.ownsRow 0 76 4 (.slice A1 n1 c1) D.W.length (flatsW D.W) → (∀ g, (Value.slice A1 n1 c1).ownBlock = some g → w.heap.size ≤ g) → ∀ b, (∀ j u, (flatW ⟨s, x, false, D.c⟩)[j]? = some u → Y.cell? ((⟨b, 0, none⟩ : Addr).add j) = some u) →
      ∃ A2 n2 c2 w2, (Builtin.append_ #[36, 36] 36 #[.slice A1 n1 c1, .slice (some ⟨b, 0, none⟩) 1 1]).run Try.prog Y = .ok (.slice A2 n2 c2) w2 ∧ w2.cell? ⟨q, 0, none⟩ = some (.slice A n cap) ∧ w2.frozen? ⟨q, 0, none⟩ = false ∧
      RowKit.Hid (Rd9 (w2.setCell ⟨q, 0, none⟩ (.slice A2 n2 c2)) q (blocksD q (.slice A2 n2 c2) u) { D with W := D.W ++ [⟨s, x, false, D.c⟩] } ∧ TurnD (blocksD q (.slice A n cap) u) (blocksD q (.slice A2 n2 c2) u) w (w2.setCell ⟨q, 0, none⟩ (.slice A2 n2 c2))) := fun Y hY A1 n1 c1 hr hg b hc => by
    obtain ⟨A2, n2, c2, w2, e1, e2, e3, e4⟩ := run_addW hr hL8 ⟨s, x, false, D.c⟩ ⟨b, 0, none⟩ 1 hc 36
    have hW2 : Mod [] w w2 := hY.then e3 fun y hy => Or.inr (hg y (by simpa using hy))
    have hnew : ∀ g, (Value.slice A2 n2 c2).ownBlock = some g → w.heap.size ≤ g := fun g hg2 => e4.elim (fun e => hg g (by rw [← e]; exact hg2)) fun e => by
      rw [e] at hg2
      injection hg2 with hg2
      have := hY.size
      omega
    have hr2 := K.setW hW2 e2 hnew (fun a ha => (List.mem_append.1 ha).elim (K.names a) fun ha => by rw [List.mem_singleton.1 ha]; exact hsl) (by simp; have := HNX.out.1; omega)
    have KW := K.mod hW2 (by simp)
    have k0 := KW.c0
    rw [← HNX.out.1] at k0
    refine ⟨A2, n2, c2, w2, e1, k0, KW.f 0, Lib.hid ⟨⟨_, _, hr2.1, rfl⟩, ?_⟩⟩
    rw [HNX.out.1]
    exact hr2.2
  have hne : ∀ o : Obj, (w.alloc o).heap.size = w.heap.size + 1 := fun o => size_allocD w o
  have newx := one_newW (x := ⟨s, x, false, D.c⟩)
  rw [ef] at newx
  -- A
  obtain ⟨A1, n1, c1, w1, ea1, ma1, ma2, ra, ga⟩ := base ((w.alloc (.cells #[] 76)).drew) (((al w _)).trans (dr _)) w.heap.size (Nat.le_refl _) (row_newW w)
  obtain ⟨A2, n2, c2, w2, ea2, ka0, kaf, KA⟩ := last (w1.alloc (.cells #[.string X, .int .i64 x, .bool false, .int .i64 c] 76)) (ma1.trans (al w1 _)) A1 n1 c1 (rowD_mod ra (al w1 _) (by simp)) (fun g hg => (ga g hg).elim (fun e => by omega) fun e => by rw [e]; exact ((al w _).trans (dr _)).size) w1.heap.size (newx w1)
  -- B
  obtain ⟨B1, n3, c3, w3, eb1, mb1, mb2, rb, gb⟩ := base (((w.alloc (.cells #[] 76)).alloc (.cells #[.string X, .int .i64 x, .bool false, .int .i64 c] 76)).drew) (((al w _).trans (al _ _)).trans (dr _)) w.heap.size (Nat.le_refl _) (rowD_mod (row_newW w) ((al _ (.cells #[.string X, .int .i64 x, .bool false, .int .i64 c] 76)).trans (dr _)) (by simp))
  obtain ⟨B2, n4, c4, w4, eb2, kb0, kbf, KB⟩ := last w3 mb1 B1 n3 c3 rb (fun g hg => (gb g hg).elim (fun e => by omega) fun e => by rw [e]; exact (((al w _).trans (al _ _)).trans (dr _)).size) (w.heap.size + 1) (fun j u hj => by
    have h := newx (w.alloc (.cells #[] 76)) j u hj
    rw [hne] at h
    refine mb2.cell (a := ((w.alloc (.cells #[] 76)).alloc (.cells #[.string X, .int .i64 x, .bool false, .int .i64 c] 76)).drew) ?_ ?_
    · rw [WideShapes.add_plain]; simp
    · exact h)
  -- C
  obtain ⟨C1, n5, c5, w5, ec1, mc1, mc2, rc, gc⟩ := base (((w.alloc (.cells #[.string X, .int .i64 x, .bool false, .int .i64 c] 76)).alloc (.cells #[] 76)).drew) (((al w _).trans (al _ _)).trans (dr _)) (w.heap.size + 1) (by omega) (by have h := row_newW (w.alloc (.cells #[.string X, .int .i64 x, .bool false, .int .i64 c] 76)); rw [hne] at h; exact rowD_mod h (dr _) (by simp))
  obtain ⟨C2, n6, c6, w6, ec2, kc0, kcf, KC⟩ := last w5 mc1 C1 n5 c5 rc (fun g hg => (gc g hg).elim (fun e => by omega) fun e => by rw [e]; exact (((al w _).trans (al _ _)).trans (dr _)).size) w.heap.size (fun j u hj => by
    refine mc2.cell (a := ((w.alloc (.cells #[.string X, .int .i64 x, .bool false, .int .i64 c] 76)).alloc (.cells #[] 76)).drew) ?_ ?_
    · rw [WideShapes.add_plain]; simp
    · exact ((al _ (.cells #[] 76)).trans (dr _)).cell (by simp) (newx w j u hj))
  have kq : ∀ Y, Mod [] w Y → Y.cell? ⟨q, 0, none⟩ = some (.slice A n cap) ∧ Y.cell? ⟨q, 3, none⟩ = some (.int .i64 c) := fun Y m => by
    have KY := K.mod m (by simp)
    have k0 := KY.c0
    have k1 := KY.c3
    rw [← HNX.out.1] at k0
    rw [← HNX.out.2.2] at k1
    exact ⟨k0, k1⟩
  obtain ⟨q1, q2⟩ := kq w (Mod.refl _ _)
  obtain ⟨q3, q4⟩ := kq _ (al w (.cells #[] 76))
  obtain ⟨q5, q6⟩ := kq _ (al w (.cells #[.string X, .int .i64 x, .bool false, .int .i64 c] 76))
  obtain ⟨q7, q8⟩ := kq _ ((al w (.cells #[] 76)).trans (al _ (.cells #[.string X, .int .i64 x, .bool false, .int .i64 c] 76)))
  obtain ⟨q9, q10⟩ := kq _ ((al w (.cells #[.string X, .int .i64 x, .bool false, .int .i64 c] 76)).trans (al _ (.cells #[] 76)))
  obtain ⟨q11, q12⟩ := kq w1 ma1
  obtain ⟨q13, q14⟩ := kq w3 mb1
  obtain ⟨q15, q16⟩ := kq w5 mc1
  obtain ⟨q17, q18⟩ := kq _ (ma1.trans (al w1 (.cells #[.string X, .int .i64 x, .bool false, .int .i64 c] 76)))
  clear kq ma1 ma2 ra ga mb1 mb2 rb gb mc1 mc2 rc gc base last newx al dr ef K h0 h3 hf0
  replace ea1 : (appWord 36 _).run Try.prog _ = .ok (.slice A1 n1 c1) w1 := ea1
  replace ea2 : (appWord 36 _).run Try.prog _ = .ok (.slice A2 n2 c2) w2 := ea2
  replace eb1 : (appWord 36 _).run Try.prog _ = .ok (.slice B1 n3 c3) w3 := eb1
  replace eb2 : (appWord 36 _).run Try.prog _ = .ok (.slice B2 n4 c4) w4 := eb2
  replace ec1 : (appWord 36 _).run Try.prog _ = .ok (.slice C1 n5 c5) w5 := ec1
  replace ec2 : (appWord 36 _).run Try.prog _ = .ok (.slice C2 n6 c6) w6 := ec2
  go_region
  all_goals
    clear ea1 ea2 eb1 eb2 ec1 ec2 q1 q2 q3 q4 q5 q6 q7 q8 q9 q10 q11 q12 q13 q14 q15 q16 q17 q18
    go_wp2_with fail
    go_ret
    first
      | exact ⟨rfl, _, KA.out.1, KA.out.2⟩
      | exact ⟨rfl, _, KB.out.1, KB.out.2⟩
      | exact ⟨rfl, _, KC.out.1, KC.out.2⟩
end Go.Proofs.Ytldnpppbnakcoaa
