/- Layer 15: an instruction is packed. Condition: its numbers are those of a definition. Layer 15: an engine while a definition is added: the packed instructions are X. No condition. Layer 15: a definition is added. Condition: its own blocks (Eown); what the instructions are. Layer 15: a definition is defined (Define). Condition: the block is an engine (Eg); the definition is one that may be. Layer 15: an engine made (made), its parts. Condition: the library's tables are there (Good). Layer 15: an engine with the words of the table (built). Condition: the library's tables are there (Good). Layer 15: an engine goes on (run), by what holds at each step. Condition: the block is an engine (Eg). -/
import Derived.Test.YtifnkmddinoneaaGreatDoorCBBE
import Derived.Test.YtifnkmddinoneaaGreatDoorCBAE
import Derived.Test.YtifnkmddinoneaaGreatDoorCBBD
set_option maxRecDepth 100000
namespace Go.Proofs.YtifnkmddinoneaaGreatDoor
open Go.RowKit
set_option linter.unusedVariables false
theorem or_bv15 (a b : Int) : bits .or .i64 a b = (BitVec.ofInt 64 a ||| BitVec.ofInt 64 b).toInt := by
  have h : ∀ x : BitVec 64, wrap64 (x.toNat : Int) = x.toInt := fun x => by
    rw [BitVec.toInt_eq_toNat_bmod]
    unfold wrap64
    rw [Int.bmod_def]
    simp only [Nat.reducePow]
    split <;> omega
  rw [← h]; exact IntWalk.i64_left _
theorem or_pack (a : Int) (o : Nat) (h0 : 0 ≤ a) (h1 : a ≤ 1000) (ho : o ≤ 15) : bits .or .i64 (a * 256) (o : Int) = a * 256 + (o : Int) := by
  obtain ⟨n, rfl⟩ : ∃ n : Nat, a = (n : Int) := ⟨a.toNat, by omega⟩
  rw [or_bv15]
  have e1 : ((n : Int) * 256) = ((n * 256 : Nat) : Int) := by simp
  rw [e1, BitVec.ofInt_natCast, BitVec.ofInt_natCast]
  have e2 : (BitVec.ofNat 64 (n * 256) ||| BitVec.ofNat 64 o).toNat = n * 256 + o := by
    rw [BitVec.toNat_or, BitVec.toNat_ofNat, BitVec.toNat_ofNat, Nat.mod_eq_of_lt (by omega), Nat.mod_eq_of_lt (by omega)]
    have e3 := Nat.shiftLeft_add_eq_or_of_lt (a := n) (b := o) (i := 8) (by omega)
    rw [Nat.shiftLeft_eq, show (2 : Nat) ^ 8 = 256 from rfl] at e3
    omega
  rw [BitVec.toInt_eq_toNat_of_lt (by rw [e2]; omega), e2]
  simp
set_option maxHeartbeats 4000000 in
theorem pack_calls (w : World) (x : L10.Xi) (hx : OkX x) : Calls Tryz.prog 66 #[insV x] w fun e w' => e = .returned (.agg #[.int .i64 (packX x), .int .i64 x.w]) ∧ Mod [] w w' := by
  obtain ⟨xo, xa, xw⟩ := x
  have m := L14.al_mod w (.cells #[.int .u8 (xo : Int), .int .i64 xa, .int .i64 xw] 61)
  unfold insV
  unfold packX
  obtain ⟨h1, h2, h3, h4, h5⟩ := hx
  dsimp only at h1 h2 h3 h4 h5 ⊢
  go_enter Tryz.func66, Tryz.ntmps66
  have ho := or_pack xa xo h3 h4 h2
  go_wp2_with fail
  have hb := (MapKept.heap_alloc (w.alloc (.cells #[.int .u8 (xo : Int), .int .i64 xa, .int .i64 xw] 61)) (.cells #[.int .i64 (xa * 256 + (xo : Int)), .int .i64 xw] 133)).1
  refine bodyPost_ret (v := .agg #[.int .i64 (xa * 256 + (xo : Int)), .int .i64 xw]) ?_ rfl ⟨rfl, m.trans (L14.al_mod _ _)⟩
  simp [results, Tryz.results66, go_sem]
end Go.Proofs.YtifnkmddinoneaaGreatDoor
namespace Go.Proofs.YtifnkmddinoneaaGreatDoor
open Go.RowKit
set_option linter.unusedVariables false
structure Epk (w : World) (A : Ag) (v : Vr) (E : Es) (X : List L10.Xi) : Prop where
  c0 : w.cell? ⟨A.g, 0, none⟩ = some v.p
  c1 : w.cell? ⟨A.g, 1, none⟩ = some v.e
  c2 : w.cell? ⟨A.g, 2, none⟩ = some v.w
  c3 : w.cell? ⟨A.g, 3, none⟩ = some (Pt A.a.s)
  c4 : w.cell? ⟨A.g, 4, none⟩ = some (Pt A.p)
  c5 : w.cell? ⟨A.g, 5, none⟩ = some (Pt A.f)
  c6 : w.cell? ⟨A.g, 6, none⟩ = some (.int .i64 E.d)
  c7 : w.cell? ⟨A.g, 7, none⟩ = some (.int .i64 E.i)
  c8 : w.cell? ⟨A.g, 8, none⟩ = some (.int .i64 E.nx)
  c9 : w.cell? ⟨A.g, 9, none⟩ = some (.map (some A.M1))
  c10 : w.cell? ⟨A.g, 10, none⟩ = some (.map (some A.M2))
  c11 : w.cell? ⟨A.g, 11, none⟩ = some (.map (some A.M3))
  f : ∀ i, w.frozen? ⟨A.g, i, none⟩ = false
  lg : A.g < w.heap.size
  rp : w.ownsRow 0 133 2 v.p X.length (flatXs X)
  re : w.ownsRow 0 3 1 v.e E.D.length ((endsL E.D).map (Value.int .i64))
  rw : w.ownsRow 0 35 3 v.w E.W.length (flatWs E.W)
  sep : (Ow15 A v).Nodup
theorem sep_iff {A : Ag} {v : Vr} : (Ow15 A v).Nodup ↔ (v.p.ownBlock ≠ some A.g ∧ v.e.ownBlock ≠ some A.g ∧ v.w.ownBlock ≠ some A.g) ∧ (∀ x, v.p.ownBlock = some x → v.e.ownBlock ≠ some x ∧ v.w.ownBlock ≠ some x) ∧ ∀ x, v.e.ownBlock = some x → v.w.ownBlock ≠ some x := by
  unfold Ow15 Vr.bs
  cases v.p.ownBlock <;> cases v.e.ownBlock <;> cases v.w.ownBlock <;> simp <;> omega
section
variable {w w' : World} {A : Ag} {v : Vr} {E : Es} {X : List L10.Xi} {S T : List Nat}
theorem Eown.pk (h : Eown w A v E) : Epk w A v E E.D.flatten := ⟨h.c0, h.c1, h.c2, h.c3, h.c4, h.c5, h.c6, h.c7, h.c8, h.c9, h.c10, h.c11, h.f, h.lg, h.rp, h.re, h.rw, h.sep⟩
theorem Epk.lt (h : Epk w A v E X) : ∀ x ∈ Ow15 A v, x < w.heap.size := fun x hx => by
  rcases mem_Ow15.1 hx with rfl | e | e | e
  · exact h.lg
  · exact (World.ownsRow.lt h.rp x e).2
  · exact (World.ownsRow.lt h.re x e).2
  · exact (World.ownsRow.lt h.rw x e).2
theorem Epk.mod (h : Epk w A v E X) (k : Mod S w w') (hS : ∀ x ∈ Ow15 A v, x ∉ S) : Epk w' A v E X := by
  have hg : A.g ∉ S := hS _ (mem_Ow15.2 (Or.inl rfl))
  exact ⟨k.cell hg h.c0, k.cell hg h.c1, k.cell hg h.c2, k.cell hg h.c3, k.cell hg h.c4, k.cell hg h.c5, k.cell hg h.c6, k.cell hg h.c7, k.cell hg h.c8, k.cell hg h.c9, k.cell hg h.c10, k.cell hg h.c11, fun i => (k.frozen (x := ⟨A.g, i, none⟩) hg h.lg).trans (h.f i), Nat.lt_of_lt_of_le h.lg k.size, L14.row_mod h.rp k fun g e => hS g (mem_Ow15.2 (Or.inr (Or.inl e))), L14.row_mod h.re k fun g e => hS g (mem_Ow15.2 (Or.inr (Or.inr (Or.inl e)))), L14.row_mod h.rw k fun g e => hS g (mem_Ow15.2 (Or.inr (Or.inr (Or.inr e)))), h.sep⟩
theorem Epk.far (h : Epk w A v E X) (k : Mod [] w w') : Epk w' A v E X := h.mod k (by simp)
theorem Epk.packs {W W3 w' : World} {v' : Value} {x : L10.Xi} (K : Epk W A v E X) (hM3 : Mod [] W W3) (hrow : w'.ownsRow 0 133 2 v' (X ++ [x]).length (flatXs (X ++ [x]))) (hm4 : Mod v.p.ownBlock.toList W3 w')
    (hown : v'.ownBlock = v.p.ownBlock ∨ v'.ownBlock = some W3.heap.size) :
    Epk (w'.setCell ⟨A.g, 0, none⟩ v') A { v with p := v' } E (X ++ [x]) ∧ Mod (Ow15 A v) W (w'.setCell ⟨A.g, 0, none⟩ v') ∧ ∀ y ∈ Ow15 A { v with p := v' }, y ∈ Ow15 A v ∨ W.heap.size ≤ y := by
  have K3 := K.far hM3
  obtain ⟨⟨sp, se, sw⟩, s1, s2⟩ := sep_iff.1 K.sep
  have hlt := K3.lt
  have hlg := K3.lg
  have lp : ∀ g, v.p.ownBlock = some g → g < W3.heap.size := fun g e => hlt g (mem_Ow15.2 (Or.inr (Or.inl e)))
  have le : ∀ g, v.e.ownBlock = some g → g < W3.heap.size := fun g e => hlt g (mem_Ow15.2 (Or.inr (Or.inr (Or.inl e))))
  have lw : ∀ g, v.w.ownBlock = some g → g < W3.heap.size := fun g e => hlt g (mem_Ow15.2 (Or.inr (Or.inr (Or.inr e))))
  have hg4 : A.g ∉ v.p.ownBlock.toList := fun h => sp (by simpa using h)
  have hm5 := L14.set_mod w' A.g 0 v'
  have sep' : (Ow15 A { v with p := v' }).Nodup := sep_iff.2 (by
    dsimp only
    rcases hown with h | h
    · rw [h]; exact ⟨⟨sp, se, sw⟩, s1, s2⟩
    · rw [h]
      refine ⟨⟨?_, ?_, ?_⟩, fun x hx => ⟨fun hy => ?_, fun hy => ?_⟩, fun x hx hy => ?_⟩
      · intro e; injection e with e; omega
      · exact se
      · exact sw
      · injection hx with hx; have := le x hy; omega
      · injection hx with hx; have := lw x hy; omega
      · exact s2 x hx hy)
  obtain ⟨⟨up, ue, uw⟩, _, _⟩ := sep_iff.1 sep'
  dsimp only at up ue uw
  have hc : ∀ i u, i ≠ 0 → W3.cell? ⟨A.g, i, none⟩ = some u → (w'.setCell ⟨A.g, 0, none⟩ v').cell? ⟨A.g, i, none⟩ = some u := fun i u hi h => by
    rw [World.cell?_setCell_other (h := by simp <;> omega)]
    exact hm4.cell (x := ⟨A.g, i, none⟩) hg4 h
  have de : ∀ g, v.e.ownBlock = some g → g ∉ v.p.ownBlock.toList := fun g hg h => (fun h2 : v.p.ownBlock = some g => (s1 g h2).1 hg) (by simpa using h)
  have dw : ∀ g, v.w.ownBlock = some g → g ∉ v.p.ownBlock.toList := fun g hg h => (fun h2 : v.p.ownBlock = some g => (s1 g h2).2 hg) (by simpa using h)
  refine ⟨⟨World.cell?_setCell_same _ _ _ (h := hm4.cell (x := ⟨A.g, 0, none⟩) hg4 K3.c0), hc 1 _ (by omega) K3.c1, hc 2 _ (by omega) K3.c2, hc 3 _ (by omega) K3.c3, hc 4 _ (by omega) K3.c4, hc 5 _ (by omega) K3.c5, hc 6 _ (by omega) K3.c6, hc 7 _ (by omega) K3.c7, hc 8 _ (by omega) K3.c8, hc 9 _ (by omega) K3.c9, hc 10 _ (by omega) K3.c10, hc 11 _ (by omega) K3.c11, fun i => (World.frozen?_setCell _ _ _ _).trans ((hm4.frozen (x := ⟨A.g, i, none⟩) hg4 K3.lg).trans (K3.f i)), Nat.lt_of_lt_of_le K3.lg (Nat.le_trans hm4.size hm5.size), ?_, ?_, ?_, sep'⟩, ?_, ?_⟩
  · exact L14.row_mod hrow hm5 fun g hg h => up (by rw [hg, List.mem_singleton.1 h])
  · exact L14.row_mod (L14.row_mod K3.re hm4 de) hm5 fun g hg h => se (by rw [hg, List.mem_singleton.1 h])
  · exact L14.row_mod (L14.row_mod K3.rw hm4 dw) hm5 fun g hg h => sw (by rw [hg, List.mem_singleton.1 h])
  · exact ((hM3.up (T := Ow15 A v) (by simp)).trans (hm4.up fun y hy => mem_Ow15.2 (Or.inr (Or.inl (by simpa using hy))))).trans (hm5.up fun y hy => mem_Ow15.2 (Or.inl (List.mem_singleton.1 hy)))
  · intro y hy
    rcases mem_Ow15.1 hy with h | h | h | h
    · exact Or.inl (mem_Ow15.2 (Or.inl h))
    · dsimp only at h
      rcases hown with e | e
      · exact Or.inl (mem_Ow15.2 (Or.inr (Or.inl (by rw [← e]; exact h))))
      · rw [e] at h; injection h with h; have := hM3.size; exact Or.inr (by omega)
    · exact Or.inl (mem_Ow15.2 (Or.inr (Or.inr (Or.inl h))))
    · exact Or.inl (mem_Ow15.2 (Or.inr (Or.inr (Or.inr h))))
theorem Epk.ends {W W3 w' : World} {v' : Value} {l : List L10.Xi} (K : Epk W A v E (E.D ++ [l]).flatten) (hM3 : Mod [] W W3) (hrow : w'.ownsRow 0 3 1 v' (E.D ++ [l]).length ((endsL (E.D ++ [l])).map (Value.int .i64))) (hm4 : Mod v.e.ownBlock.toList W3 w')
    (hown : v'.ownBlock = v.e.ownBlock ∨ v'.ownBlock = some W3.heap.size) :
    Eown (w'.setCell ⟨A.g, 1, none⟩ v') A { v with e := v' } { E with D := E.D ++ [l] } ∧ Mod (Ow15 A v) W (w'.setCell ⟨A.g, 1, none⟩ v') ∧ ∀ y ∈ Ow15 A { v with e := v' }, y ∈ Ow15 A v ∨ W.heap.size ≤ y := by
  have K3 := K.far hM3
  obtain ⟨⟨sp, se, sw⟩, s1, s2⟩ := sep_iff.1 K.sep
  have hlt := K3.lt
  have hlg := K3.lg
  have lp : ∀ g, v.p.ownBlock = some g → g < W3.heap.size := fun g e => hlt g (mem_Ow15.2 (Or.inr (Or.inl e)))
  have le : ∀ g, v.e.ownBlock = some g → g < W3.heap.size := fun g e => hlt g (mem_Ow15.2 (Or.inr (Or.inr (Or.inl e))))
  have lw : ∀ g, v.w.ownBlock = some g → g < W3.heap.size := fun g e => hlt g (mem_Ow15.2 (Or.inr (Or.inr (Or.inr e))))
  have hg4 : A.g ∉ v.e.ownBlock.toList := fun h => se (by simpa using h)
  have hm5 := L14.set_mod w' A.g 1 v'
  have sep' : (Ow15 A { v with e := v' }).Nodup := sep_iff.2 (by
    dsimp only
    rcases hown with h | h
    · rw [h]; exact ⟨⟨sp, se, sw⟩, s1, s2⟩
    · rw [h]
      refine ⟨⟨?_, ?_, ?_⟩, fun x hx => ⟨fun hy => ?_, fun hy => ?_⟩, fun x hx hy => ?_⟩
      · exact sp
      · intro e; injection e with e; omega
      · exact sw
      · injection hy with hy; have := lp x hx; omega
      · exact (s1 x hx).2 hy
      · injection hx with hx; have := lw x hy; omega)
  obtain ⟨⟨up, ue, uw⟩, _, _⟩ := sep_iff.1 sep'
  dsimp only at up ue uw
  have hc : ∀ i u, i ≠ 1 → W3.cell? ⟨A.g, i, none⟩ = some u → (w'.setCell ⟨A.g, 1, none⟩ v').cell? ⟨A.g, i, none⟩ = some u := fun i u hi h => by
    rw [World.cell?_setCell_other (h := by simp <;> omega)]
    exact hm4.cell (x := ⟨A.g, i, none⟩) hg4 h
  have dp : ∀ g, v.p.ownBlock = some g → g ∉ v.e.ownBlock.toList := fun g hg h => (s1 g hg).1 (by simpa using h)
  have dw : ∀ g, v.w.ownBlock = some g → g ∉ v.e.ownBlock.toList := fun g hg h => (fun h2 : v.e.ownBlock = some g => s2 g h2 hg) (by simpa using h)
  refine ⟨⟨hc 0 _ (by omega) K3.c0, World.cell?_setCell_same _ _ _ (h := hm4.cell (x := ⟨A.g, 1, none⟩) hg4 K3.c1), hc 2 _ (by omega) K3.c2, hc 3 _ (by omega) K3.c3, hc 4 _ (by omega) K3.c4, hc 5 _ (by omega) K3.c5, hc 6 _ (by omega) K3.c6, hc 7 _ (by omega) K3.c7, hc 8 _ (by omega) K3.c8, hc 9 _ (by omega) K3.c9, hc 10 _ (by omega) K3.c10, hc 11 _ (by omega) K3.c11, fun i => (World.frozen?_setCell _ _ _ _).trans ((hm4.frozen (x := ⟨A.g, i, none⟩) hg4 K3.lg).trans (K3.f i)), Nat.lt_of_lt_of_le K3.lg (Nat.le_trans hm4.size hm5.size), ?_, ?_, ?_, sep'⟩, ?_, ?_⟩
  · exact L14.row_mod (L14.row_mod K3.rp hm4 dp) hm5 fun g hg h => sp (by rw [hg, List.mem_singleton.1 h])
  · exact L14.row_mod hrow hm5 fun g hg h => ue (by rw [hg, List.mem_singleton.1 h])
  · exact L14.row_mod (L14.row_mod K3.rw hm4 dw) hm5 fun g hg h => sw (by rw [hg, List.mem_singleton.1 h])
  · exact ((hM3.up (T := Ow15 A v) (by simp)).trans (hm4.up fun y hy => mem_Ow15.2 (Or.inr (Or.inr (Or.inl (by simpa using hy)))))).trans (hm5.up fun y hy => mem_Ow15.2 (Or.inl (List.mem_singleton.1 hy)))
  · intro y hy
    rcases mem_Ow15.1 hy with h | h | h | h
    · exact Or.inl (mem_Ow15.2 (Or.inl h))
    · exact Or.inl (mem_Ow15.2 (Or.inr (Or.inl h)))
    · dsimp only at h
      rcases hown with e | e
      · exact Or.inl (mem_Ow15.2 (Or.inr (Or.inr (Or.inl (by rw [← e]; exact h)))))
      · rw [e] at h; injection h with h; have := hM3.size; exact Or.inr (by omega)
    · exact Or.inl (mem_Ow15.2 (Or.inr (Or.inr (Or.inr h))))
end
end Go.Proofs.YtifnkmddinoneaaGreatDoor
namespace Go.Proofs.YtifnkmddinoneaaGreatDoor
open Go.RowKit
set_option linter.unusedVariables false
theorem Tryz.infoPk : (Tryz.prog.info? 133).map (fun i => (i.zero, i.size, i.bytes)) = some (some (.agg #[.int .i64 0, .int .i64 0]), 2, 16) := by kernel_rfl
theorem Tryz.infoIn15 : (Tryz.prog.info? 3).map (fun i => (i.zero, i.size, i.bytes)) = some (some (.int .i64 0), 1, 8) := by kernel_rfl
theorem flatXs_one (x : L10.Xi) : flatXs [x] = flatX x := by simp [flatXs]
theorem run_appP {w : World} {v : Value} {L : List L10.Xi} (h : w.ownsRow 0 133 2 v L.length (flatXs L)) (hl : L.length ≤ 1000000) (x : L10.Xi) (a : Addr) (cp : Nat) (hc : ∀ j u, (flatX x)[j]? = some u → w.cell? (a.add j) = some u) (ty : TypeId) :
    ∃ v' w', (Builtin.append_ #[81, 81] ty #[v, .slice (some a) 1 cp]).run Tryz.prog w = .ok v' w' ∧ w'.ownsRow 0 133 2 v' (L ++ [x]).length (flatXs (L ++ [x])) ∧ Mod v.ownBlock.toList w w' ∧ (v'.ownBlock = v.ownBlock ∨ v'.ownBlock = some w.heap.size) := by
  obtain ⟨i, hi, hz0, hz1, hz2⟩ := info_parts Tryz.infoPk
  have hm : maxLen = 9223372036854775807 := rfl
  obtain ⟨v', w', h1, h2, h3, _, h5⟩ := run_append_own_at (P := Tryz.prog) w 0 81 ty 133 i _ 2 16 Tryz.underlying81 hi hz0 hz1 hz2 rfl (by decide) _ _ _ h a 1 cp (flatX x) rfl hc (fun u hu => by simp [flatX] at hu; rcases hu with rfl | rfl <;> rfl) (by omega) (by omega) (Nat.zero_le _)
  refine ⟨v', w', h1, ?_, Mod.of_grown h3 (by simp), h5⟩
  have e : (L ++ [x]).length = L.length + 1 := by simp
  rw [e, flatXs_app, flatXs_one]
  exact h2
theorem run_appI {w : World} {v : Value} {L : List Int} (h : w.ownsRow 0 3 1 v L.length (L.map (Value.int .i64))) (hl : L.length ≤ 1000000) (x : Int) (a : Addr) (cp : Nat) (hc : ∀ j u, ([Value.int .i64 x])[j]? = some u → w.cell? (a.add j) = some u) (ty : TypeId) :
    ∃ v' w', (Builtin.append_ #[72, 72] ty #[v, .slice (some a) 1 cp]).run Tryz.prog w = .ok v' w' ∧ w'.ownsRow 0 3 1 v' (L ++ [x]).length ((L ++ [x]).map (Value.int .i64)) ∧ Mod v.ownBlock.toList w w' ∧ (v'.ownBlock = v.ownBlock ∨ v'.ownBlock = some w.heap.size) := by
  obtain ⟨i, hi, hz0, hz1, hz2⟩ := info_parts Tryz.infoIn15
  have hm : maxLen = 9223372036854775807 := rfl
  obtain ⟨v', w', h1, h2, h3, _, h5⟩ := run_append_own_at (P := Tryz.prog) w 0 72 ty 3 i _ 1 8 Tryz.underlying72 hi hz0 hz1 hz2 rfl (by decide) _ _ _ h a 1 cp [.int .i64 x] rfl hc (fun u hu => by simp at hu; rcases hu with rfl; rfl) (by omega) (by omega) (Nat.zero_le _)
  refine ⟨v', w', h1, ?_, Mod.of_grown h3 (by simp), h5⟩
  have e : (L ++ [x]).length = L.length + 1 := by simp
  rw [e, List.map_append]
  exact h2
def appRowP (ty : TypeId) (xs : Array Value) : Sem Value := Builtin.append_ #[81, 81] ty xs
@[go_sem ↓ high] theorem builtin_appRowP (ty : TypeId) (cs : Array Bool) (xs : Array Value) : builtin .append #[81, 81] ty cs xs = (do pure (.value (← appRowP ty xs))) := rfl
theorem step_appP {ops : Array Oper} {o : Oper} {a : Act} {w w' : World} {K : Act → World → Prop} {Q : Exit → Act → World → Prop} {E : Prop} (hgd : o.guard = none) (s x : Operand)
    (ho : o.op = .call { callee := .builtin .append, args := #[s, x], argTypes := #[81, 81] }) {v1 v2 r : Value} (h1 : a.eval s = v1) (h2 : a.eval x = v2)
    (hr : (appRowP o.type #[v1, v2]).run Tryz.prog w = .ok r w') (hK : K (a.put o.dst r) w') : if Region.wanted o (yielded ops a.tmps) = true then Oper.wp Tryz.prog o a w K Q else E := by
  have hw : Region.wanted o (yielded ops a.tmps) = true := by simp [Region.wanted, hgd]
  rw [if_pos hw]
  unfold Oper.wp execOp
  unfold appRowP at hr
  simp only [ho, resolve, invoke, builtin, Sem.run_bind, Sem.run_pure, Result.andThen_ok, List.map_toArray, List.map_cons, List.map_nil, h1, h2, hr]
  exact hK
theorem lit_new (W : World) (L : List Value) (t : TypeId) : ∀ j u, L[j]? = some u → (W.alloc (.cells L.toArray t)).drew.cell? ((⟨W.heap.size, 0, none⟩ : Addr).add j) = some u := fun j u hj => by
  have hb : (W.alloc (.cells L.toArray t)).drew.heap[W.heap.size]? = some (.cells L.toArray t) := (MapKept.heap_alloc W _).1
  rw [WideShapes.add_plain, Nat.zero_add, ← hj]
  simp only [World.cell?, hb]
  simp
theorem endsL_app (D : List (List L10.Xi)) (l : List L10.Xi) : endsL (D ++ [l]) = endsL D ++ [((D ++ [l]).flatten.length : Int)] := by
  unfold endsL
  rw [List.length_append, List.length_singleton, List.range_succ, List.map_append]
  congr 1
  · refine List.map_congr_left fun k hk => ?_
    have := List.mem_range.1 hk
    rw [List.take_append_of_le_length (by omega)]
  · have e : D.length + 1 = (D ++ [l]).length := by simp
    rw [List.map_singleton, e, List.take_length]
theorem endsL_len (D : List (List L10.Xi)) : (endsL D).length = D.length := by simp [endsL]
theorem lit_new0 (W : World) (L : List Value) (t : TypeId) : ∀ j u, L[j]? = some u → (W.alloc (.cells L.toArray t)).cell? ((⟨W.heap.size, 0, none⟩ : Addr).add j) = some u := fun j u hj => by
  have hb : (W.alloc (.cells L.toArray t)).heap[W.heap.size]? = some (.cells L.toArray t) := (MapKept.heap_alloc W _).1
  rw [WideShapes.add_plain, Nat.zero_add, ← hj]
  simp only [World.cell?, hb]
  simp
section
variable {w w' : World} {A : Ag} {v : Vr} {E : Es} {T : List Nat}
def ApP (X W : World) (A : Ag) (v : Vr) (E : Es) (L : List L10.Xi) (x : L10.Xi) : Prop := ∀ B k c, v.p = .slice B k c → k = L.length → ∃ A' c' w', (appRowP 81 #[.slice B k c, .slice (some ⟨W.heap.size, 0, none⟩) 1 1]).run Tryz.prog (W.alloc (.cells #[.int .i64 (packX x), .int .i64 x.w] 133)) = .ok (.slice A' (k + 1) c') w' ∧
  W.cell? ⟨A.g, 0, none⟩ = some (.slice B k c) ∧ (W.alloc (.cells #[.int .i64 (packX x), .int .i64 x.w] 133)).cell? ⟨A.g, 0, none⟩ = some (.slice B k c) ∧ w'.cell? ⟨A.g, 0, none⟩ = some (.slice B k c) ∧ w'.frozen? ⟨A.g, 0, none⟩ = false ∧ A.g < w'.heap.size ∧
  RowKit.Hid (Epk (w'.setCell ⟨A.g, 0, none⟩ (.slice A' (k + 1) c')) A { v with p := .slice A' (k + 1) c' } E (L ++ [x]) ∧ Mod (Ow15 A v) X (w'.setCell ⟨A.g, 0, none⟩ (.slice A' (k + 1) c')) ∧ ∀ y ∈ Ow15 A { v with p := .slice A' (k + 1) c' }, y ∈ Ow15 A v ∨ X.heap.size ≤ y)
theorem Epk.app {X W : World} {L : List L10.Xi} (h : Epk X A v E L) (hl : L.length ≤ 1000000) (x : L10.Xi) (k : Mod [] X W) : ApP X W A v E L x := fun B n c hv hn => by
  have hM3 : Mod [] X (W.alloc (.cells #[.int .i64 (packX x), .int .i64 x.w] 133)) := k.trans (L14.al_mod _ _)
  have K3 := h.far hM3
  have hc := lit_new0 W (flatX x) 133
  have ef : (flatX x).toArray = #[.int .i64 (packX x), .int .i64 x.w] := rfl
  rw [ef] at hc
  obtain ⟨v', w', hr, hrow, hm4, hown⟩ := run_appP K3.rp hl x ⟨W.heap.size, 0, none⟩ 1 hc 81
  obtain ⟨A', cap', hsl⟩ := row_slice hrow
  have e1 : (L ++ [x]).length = n + 1 := by rw [hn]; simp
  rw [e1] at hsl
  subst hsl
  have hAP := h.packs hM3 hrow hm4 hown
  have hp4 : A.g ∉ v.p.ownBlock.toList := fun hx => (sep_iff.1 h.sep).1.1 (by simpa using hx)
  rw [hv] at hr
  refine ⟨A', cap', w', hr, ?_, ?_, ?_, (hm4.frozen (x := ⟨A.g, 0, none⟩) hp4 K3.lg).trans (K3.f 0), Nat.lt_of_lt_of_le K3.lg hm4.size, Lib.hid hAP⟩
  · rw [← hv]; exact (h.far k).c0
  · rw [← hv]; exact K3.c0
  · rw [← hv]; exact hm4.cell (x := ⟨A.g, 0, none⟩) hp4 K3.c0
end
section
variable {w w' : World} {A : Ag} {v : Vr} {E : Es} {T : List Nat}
set_option maxRecDepth 100000 in
set_option maxHeartbeats 4000000 in
theorem cadd_calls (h : Eown w A v E) {B : Option Addr} {n cap : Nat} {l : List L10.Xi} (hL : L10.InsAt w B l) (hn : n = l.length) (hx : ∀ x ∈ l, OkX x) (hb : n ≤ 500) (hd : E.D.length < 300) (hall : E.D.flatten.length ≤ 200000) (hB : ∀ b o, B = some ⟨b, o, none⟩ → b ∉ Ow15 A v) :
    Calls Tryz.prog 41 #[Pt A.g, L10.defV B n cap] w fun e w' => e = .returned (.int .i64 ((E.D.length : Int) + 1)) ∧ ∃ v', Eown w' A v' { E with D := E.D ++ [l] } ∧ Mod (Ow15 A v) w w' ∧ ∀ y ∈ Ow15 A v', y ∈ Ow15 A v ∨ w.heap.size ≤ y := by
  have m := L14.al_mod w (.cells #[.slice B n cap] 24)
  have bk := (MapKept.heap_alloc w (.cells #[.slice B n cap] 24)).1
  have x0 : (w.alloc (.cells #[.slice B n cap] 24)).cell? ⟨w.heap.size, 0, none⟩ = some (.slice B n cap) := L14.cell_eq bk 0
  have HH := Lib.hid (And.intro h (And.intro hL (And.intro hn (And.intro hx (And.intro hb (And.intro hd (And.intro hall hB)))))))
  have HP := Lib.hid fun W (x : L10.Xi) (hx : OkX x) => pack_calls W x hx
  clear h hL hn hx hb hd hall bk hB
  unfold L10.defV
  go_enter Tryz.func41, Tryz.ntmps41
  go_wp2_with fail
  generalize (w.alloc (.cells #[.slice B n cap] 24)) = w1 at *
  obtain ⟨h, hL, hn, hx, hb, hd, hall, hB⟩ := HH.out
  have HM := Lib.hid m
  have H1 := Lib.hid (h.pk.far m)
  have HL := Lib.hid (hL.far m)
  have HN := Lib.hid hn
  clear h hL m x0 hn
  go_loopw [10] (fun y wr => ∃ j : Nat, y = .int .i64 (j : Int) ∧ j ≤ n ∧ RowKit.Hid (∃ v', Epk wr A v' E (E.D.flatten ++ l.take j) ∧ Mod (Ow15 A v) w1 wr ∧ (∀ y ∈ Ow15 A v', y ∈ Ow15 A v ∨ w1.heap.size ≤ y))) (fun y _ => n + 1 - (intOf y).toNat)
  case atStart => exact ⟨0, rfl, by omega, Lib.hid ⟨v, by simpa using H1.out, Mod.refl _ _, fun y hy => Or.inl hy⟩⟩
  case round =>
    obtain ⟨j, rfl, hj, hi⟩ := hrel
    obtain ⟨v', h1, h2, h3⟩ := hi.out
    have hn := HN.out
    by_cases hlt : j < n
    · have hjI : (j : Int) < (n : Int) := by omega
      have hjl : l[j]? = some l[j] := List.getElem?_eq_getElem (by omega)
      obtain ⟨b, o, rfl, ⟨g0, g1, g2⟩, _⟩ := HL.out.get hjl
      have hbS : b ∉ Ow15 A v := hB b o rfl
      replace g0 := h2.cell hbS g0
      replace g1 := h2.cell hbS g1
      replace g2 := h2.cell hbS g2
      have hox := hx l[j] (List.mem_of_getElem? hjl)
      have htk : E.D.flatten ++ l.take (j + 1) = (E.D.flatten ++ l.take j) ++ [l[j]] := by rw [List.take_succ_eq_append_getElem (by omega), List.append_assoc]
      have hll : (E.D.flatten ++ l.take j).length ≤ 1000000 := by rw [List.length_append, List.length_take]; omega
      generalize (E.D.flatten ++ l.take j) = L at *
      generalize l[j] = x at *
      have wj : wrap64 ((j : Int) + 1) = (j : Int) + 1 := IntWalk.wrap64_in _ (by omega)
      obtain ⟨xo, xa, xw⟩ := x
      have m3 : Mod [] wr (wr.alloc (.cells #[.int .u8 (xo : Int), .int .i64 xa, .int .i64 xw] 61)) := (Mod.refl [] wr).alloc _
      have bk := (MapKept.heap_alloc wr (.cells #[.int .u8 (xo : Int), .int .i64 xa, .int .i64 xw] 61)).1
      have h13 := h1.far m3
      have HX := Lib.hid (And.intro h1 (And.intro h2 (And.intro h3 (And.intro htk m3))))
      clear hi hjl hx hn
      go_upto_region 4 with fail
      generalize wr.alloc (.cells #[.int .u8 (xo : Int), .int .i64 xa, .int .i64 xw] 61) = X at *
      obtain ⟨d0, d1, d2, _⟩ := three_at bk
      have hD := (Mod.refl [] X).drew
      obtain ⟨B1, c1, hv1⟩ := row_slice h13.rp
      obtain ⟨k, hk⟩ : ∃ k, k = L.length := ⟨_, rfl⟩
      rw [← hk] at hv1
      have c0 := h13.c0
      rw [hv1] at c0
      have lg := h13.lg
      have AP := Lib.hid fun W (m : Mod [] X.drew W) => h13.app hll ⟨xo, xa, xw⟩ (hD.trans m) _ _ _ hv1 hk
      have H2 := HP.out X.drew ⟨xo, xa, xw⟩ hox
      unfold insV at H2
      dsimp only at H2
      have H2 := Lib.hid H2
      have C0 := hD.cell (x := ⟨A.g, 0, none⟩) (by simp) c0
      have D0 := hD.cell (x := ⟨wr.heap.size, 0, none⟩) (by simp) d0
      have D1 := hD.cell (x := ⟨wr.heap.size, 1, none⟩) (by simp) d1
      have D2 := hD.cell (x := ⟨wr.heap.size, 2, none⟩) (by simp) d2
      dsimp only at AP
      clear h1 h2 h3 htk g0 g1 g2 bk h13 hll hv1 hk hox
      have FIN : ∀ (A' : Option Addr) (c' : Nat) (w' : World), RowKit.Hid (Epk (w'.setCell ⟨A.g, 0, none⟩ (.slice A' (k + 1) c')) A { v' with p := .slice A' (k + 1) c' } E (L ++ [⟨xo, xa, xw⟩]) ∧ Mod (Ow15 A v') X (w'.setCell ⟨A.g, 0, none⟩ (.slice A' (k + 1) c')) ∧ ∀ y ∈ Ow15 A { v' with p := .slice A' (k + 1) c' }, y ∈ Ow15 A v' ∨ X.heap.size ≤ y) → ∃ j' : Nat, (.int .i64 (j + 1) : Value) = .int .i64 (j' : Int) ∧ j' ≤ n ∧ RowKit.Hid (∃ v', Epk (w'.setCell ⟨A.g, 0, none⟩ (.slice A' (k + 1) c')) A v' E (E.D.flatten ++ l.take j') ∧ Mod (Ow15 A v) w1 (w'.setCell ⟨A.g, 0, none⟩ (.slice A' (k + 1) c')) ∧ (∀ y ∈ Ow15 A v', y ∈ Ow15 A v ∨ w1.heap.size ≤ y)) := fun A' c' w' HF => by
        obtain ⟨q1, q2, q3⟩ := HF.out
        obtain ⟨h1, h2, h3, htk, m3⟩ := HX.out
        have z2 := h2.size
        have z3 := m3.size
        refine ⟨j + 1, by go_num, by omega, Lib.hid ⟨_, by rw [htk]; exact q1, h2.then ((m3.up (by simp)).trans q2) h3, fun y hy => ?_⟩⟩
        rcases q3 y hy with e | e
        · exact h3 y e
        · exact Or.inr (by omega)
      have FIN := Lib.hid FIN
      clear HX C0 D0 D1 D2 hD
      refine wp_region_any (by kernel_rfl) ?_
      try (change wpAny _ _ _ _ _ _ _ (World.drew _))
      refine wpAny_take (i := 0) (v := ?_) rfl (by kernel_rfl) (by kernel_rfl) (by kernel_rfl) (fun _ _ _ h => h) (Or.inl ⟨by rfl, ?_⟩) ?_
      rotate_left 1
      · intro w; go_simp; try with_reducible rfl
      refine wpAny_take (i := 1) (v := ?_) rfl (by kernel_rfl) (by kernel_rfl) (by kernel_rfl) (fun _ _ _ h => h) (Or.inl ⟨by rfl, ?_⟩) ?_
      rotate_left 1
      · intro w; go_simp; try with_reducible rfl
      refine wpAny_take (i := 2) (v := ?_) rfl (by kernel_rfl) (by kernel_rfl) (by kernel_rfl) (fun _ _ _ h => h) (Or.inl ⟨by rfl, ?_⟩) ?_
      rotate_left 1
      · intro w; go_simp; try with_reducible rfl
      refine wpAny_take (i := 3) (v := ?_) rfl (by kernel_rfl) (by kernel_rfl) (by kernel_rfl) (fun _ _ _ h => h) (Or.inl ⟨by rfl, ?_⟩) ?_
      rotate_left 1
      · intro w; go_simp; try with_reducible rfl
      refine wpAny_ready (rs := [4, 5]) (by kernel_rfl) (by simp) ?_
      refine AllReady.cons rfl (fun K hK => ?_) ?_
      · go_simp
        refine hK _ _ ?_; clear hK K
        refine wpAny_ready (rs := [5]) (by kernel_rfl) (by simp) ?_
        refine AllReady.cons rfl (fun K hK => ?_) ?_
        · go_simp
          refine hK _ _ ?_; clear hK K
          refine wpAny_ready (rs := [6]) (by kernel_rfl) (by simp) ?_
          refine AllReady.cons rfl (fun K hK => ?_) ?_
          · go_simp; refine (H2.out).mono ?_; rintro e w9 ⟨rfl, m9⟩; obtain ⟨A', c', w', hr, C1, C2, C3, C4, C5, HF⟩ := AP.out w9 m9
            refine hK _ _ ?_; clear hK K
            refine wpAny_ready (rs := [7]) (by kernel_rfl) (by simp) ?_
            refine AllReady.cons rfl (fun K hK => ?_) ?_
            · go_simp
              refine hK _ _ ?_; clear hK K
              refine wpAny_ready (rs := [8]) (by kernel_rfl) (by simp) ?_
              refine AllReady.cons rfl (fun K hK => ?_) ?_
              · refine step_appP (by rfl) (.tmp 18) (.tmp 21) (by rfl) (by rfl) (by rfl) hr ?_
                refine hK _ _ ?_; clear hK K
                simp only [Act.put, List.setIfInBounds_toArray]
                refine wpAny_take (i := 9) (v := ?_) rfl (by kernel_rfl) (by kernel_rfl) (by kernel_rfl) (fun _ _ _ h => h) (Or.inl ⟨by rfl, ?_⟩) ?_
                rotate_left 1
                · intro w; go_simp; try with_reducible rfl
                refine wpAny_take (i := 10) (v := ?_) rfl (by kernel_rfl) (by kernel_rfl) (by kernel_rfl) (fun _ _ _ h => h) (Or.inl ⟨by rfl, ?_⟩) ?_
                rotate_left 1
                · intro w; go_simp; try with_reducible rfl
                refine wpAny_ready (rs := [11]) (by kernel_rfl) (by simp) ?_
                refine AllReady.cons rfl (fun K hK => ?_) ?_
                · go_simp
                  refine hK _ _ ?_; clear hK K
                  refine wpAny_done (by kernel_rfl) ?_ _
                  clear hr C1 C2 C3 C4 C5 m9
                  go_wp2_with fail
                  go_roundw
                  case rel => exact FIN.out _ _ _ HF
                  case measure => simp [intOf]; omega
                exact AllReady.nil
              exact AllReady.nil
            exact AllReady.nil
          exact AllReady.nil
        exact AllReady.nil
      refine AllReady.cons rfl (fun K hK => ?_) ?_
      · go_simp
        refine hK _ _ ?_; clear hK K
        refine wpAny_ready (rs := [4, 6]) (by kernel_rfl) (by simp) ?_
        refine AllReady.cons rfl (fun K hK => ?_) ?_
        · go_simp
          refine hK _ _ ?_; clear hK K
          refine wpAny_ready (rs := [6]) (by kernel_rfl) (by simp) ?_
          refine AllReady.cons rfl (fun K hK => ?_) ?_
          · go_simp; refine (H2.out).mono ?_; rintro e w9 ⟨rfl, m9⟩; obtain ⟨A', c', w', hr, C1, C2, C3, C4, C5, HF⟩ := AP.out w9 m9
            refine hK _ _ ?_; clear hK K
            refine wpAny_ready (rs := [7]) (by kernel_rfl) (by simp) ?_
            refine AllReady.cons rfl (fun K hK => ?_) ?_
            · go_simp
              refine hK _ _ ?_; clear hK K
              refine wpAny_ready (rs := [8]) (by kernel_rfl) (by simp) ?_
              refine AllReady.cons rfl (fun K hK => ?_) ?_
              · refine step_appP (by rfl) (.tmp 18) (.tmp 21) (by rfl) (by rfl) (by rfl) hr ?_
                refine hK _ _ ?_; clear hK K
                simp only [Act.put, List.setIfInBounds_toArray]
                refine wpAny_take (i := 9) (v := ?_) rfl (by kernel_rfl) (by kernel_rfl) (by kernel_rfl) (fun _ _ _ h => h) (Or.inl ⟨by rfl, ?_⟩) ?_
                rotate_left 1
                · intro w; go_simp; try with_reducible rfl
                refine wpAny_take (i := 10) (v := ?_) rfl (by kernel_rfl) (by kernel_rfl) (by kernel_rfl) (fun _ _ _ h => h) (Or.inl ⟨by rfl, ?_⟩) ?_
                rotate_left 1
                · intro w; go_simp; try with_reducible rfl
                refine wpAny_ready (rs := [11]) (by kernel_rfl) (by simp) ?_
                refine AllReady.cons rfl (fun K hK => ?_) ?_
                · go_simp
                  refine hK _ _ ?_; clear hK K
                  refine wpAny_done (by kernel_rfl) ?_ _
                  clear hr C1 C2 C3 C4 C5 m9
                  go_wp2_with fail
                  go_roundw
                  case rel => exact FIN.out _ _ _ HF
                  case measure => simp [intOf]; omega
                exact AllReady.nil
              exact AllReady.nil
            exact AllReady.nil
          exact AllReady.nil
        refine AllReady.cons rfl (fun K hK => ?_) ?_
        · go_simp; refine (H2.out).mono ?_; rintro e w9 ⟨rfl, m9⟩; obtain ⟨A', c', w', hr, C1, C2, C3, C4, C5, HF⟩ := AP.out w9 m9
          refine hK _ _ ?_; clear hK K
          refine wpAny_ready (rs := [4, 7]) (by kernel_rfl) (by simp) ?_
          refine AllReady.cons rfl (fun K hK => ?_) ?_
          · go_simp
            refine hK _ _ ?_; clear hK K
            refine wpAny_ready (rs := [7]) (by kernel_rfl) (by simp) ?_
            refine AllReady.cons rfl (fun K hK => ?_) ?_
            · go_simp
              refine hK _ _ ?_; clear hK K
              refine wpAny_ready (rs := [8]) (by kernel_rfl) (by simp) ?_
              refine AllReady.cons rfl (fun K hK => ?_) ?_
              · refine step_appP (by rfl) (.tmp 18) (.tmp 21) (by rfl) (by rfl) (by rfl) hr ?_
                refine hK _ _ ?_; clear hK K
                simp only [Act.put, List.setIfInBounds_toArray]
                refine wpAny_take (i := 9) (v := ?_) rfl (by kernel_rfl) (by kernel_rfl) (by kernel_rfl) (fun _ _ _ h => h) (Or.inl ⟨by rfl, ?_⟩) ?_
                rotate_left 1
                · intro w; go_simp; try with_reducible rfl
                refine wpAny_take (i := 10) (v := ?_) rfl (by kernel_rfl) (by kernel_rfl) (by kernel_rfl) (fun _ _ _ h => h) (Or.inl ⟨by rfl, ?_⟩) ?_
                rotate_left 1
                · intro w; go_simp; try with_reducible rfl
                refine wpAny_ready (rs := [11]) (by kernel_rfl) (by simp) ?_
                refine AllReady.cons rfl (fun K hK => ?_) ?_
                · go_simp
                  refine hK _ _ ?_; clear hK K
                  refine wpAny_done (by kernel_rfl) ?_ _
                  clear hr C1 C2 C3 C4 C5 m9
                  go_wp2_with fail
                  go_roundw
                  case rel => exact FIN.out _ _ _ HF
                  case measure => simp [intOf]; omega
                exact AllReady.nil
              exact AllReady.nil
            exact AllReady.nil
          refine AllReady.cons rfl (fun K hK => ?_) ?_
          · go_simp
            refine hK _ _ ?_; clear hK K
            refine wpAny_ready (rs := [4]) (by kernel_rfl) (by simp) ?_
            refine AllReady.cons rfl (fun K hK => ?_) ?_
            · go_simp
              refine hK _ _ ?_; clear hK K
              refine wpAny_ready (rs := [8]) (by kernel_rfl) (by simp) ?_
              refine AllReady.cons rfl (fun K hK => ?_) ?_
              · refine step_appP (by rfl) (.tmp 18) (.tmp 21) (by rfl) (by rfl) (by rfl) hr ?_
                refine hK _ _ ?_; clear hK K
                simp only [Act.put, List.setIfInBounds_toArray]
                refine wpAny_take (i := 9) (v := ?_) rfl (by kernel_rfl) (by kernel_rfl) (by kernel_rfl) (fun _ _ _ h => h) (Or.inl ⟨by rfl, ?_⟩) ?_
                rotate_left 1
                · intro w; go_simp; try with_reducible rfl
                refine wpAny_take (i := 10) (v := ?_) rfl (by kernel_rfl) (by kernel_rfl) (by kernel_rfl) (fun _ _ _ h => h) (Or.inl ⟨by rfl, ?_⟩) ?_
                rotate_left 1
                · intro w; go_simp; try with_reducible rfl
                refine wpAny_ready (rs := [11]) (by kernel_rfl) (by simp) ?_
                refine AllReady.cons rfl (fun K hK => ?_) ?_
                · go_simp
                  refine hK _ _ ?_; clear hK K
                  refine wpAny_done (by kernel_rfl) ?_ _
                  clear hr C1 C2 C3 C4 C5 m9
                  go_wp2_with fail
                  go_roundw
                  case rel => exact FIN.out _ _ _ HF
                  case measure => simp [intOf]; omega
                exact AllReady.nil
              exact AllReady.nil
            exact AllReady.nil
          exact AllReady.nil
        exact AllReady.nil
      exact AllReady.nil
    · have hjI : ¬ (j : Int) < (n : Int) := by omega
      have hjn : j = l.length := by omega
      have etk : E.D.flatten ++ l.take j = (E.D ++ [l]).flatten := by rw [hjn, List.take_length]; simp
      rw [etk] at h1
      have hfl : (E.D ++ [l]).flatten.length ≤ 1000000 := by rw [← etk, List.length_append, List.length_take]; omega
      obtain ⟨N, hN⟩ : ∃ N, N = (E.D ++ [l]).flatten.length := ⟨_, rfl⟩
      obtain ⟨B0, c0, hp⟩ := row_slice h1.rp
      obtain ⟨B1, c1, he⟩ := row_slice h1.re
      obtain ⟨D, hD⟩ : ∃ D, D = E.D.length := ⟨_, rfl⟩
      have hDb : D < 300 := hD ▸ hd
      have hNb : N ≤ 1000000 := hN ▸ hfl
      rw [← hN] at hp
      rw [← hD] at he
      have k0 := h1.c0
      have k1 := h1.c1
      rw [hp] at k0
      rw [he] at k1
      have hM3 : Mod [] wr (wr.alloc (.cells #[.int .i64 (N : Int)] 3)).drew := ((Mod.refl [] wr).alloc _).drew
      have K3 := h1.far hM3
      have hc := lit_new wr [.int .i64 (N : Int)] 3
      have hre := K3.re
      rw [← endsL_len E.D] at hre
      obtain ⟨v2, w', hr, hrow, hm4, hown⟩ := run_appI hre (by rw [endsL_len]; omega) (N : Int) ⟨wr.heap.size, 0, none⟩ 1 hc 72
      obtain ⟨A', cap', hsl⟩ := row_slice hrow
      have e1 : (endsL E.D ++ [(N : Int)]).length = D + 1 := by rw [hD, List.length_append, endsL_len]; rfl
      rw [e1] at hsl
      subst hsl
      have hrow' : w'.ownsRow 0 3 1 (.slice A' (D + 1) cap') (E.D ++ [l]).length ((endsL (E.D ++ [l])).map (Value.int .i64)) := by
        rw [endsL_app, ← hN]
        rw [e1] at hrow
        rw [List.length_append, ← hD]
        exact hrow
      have hAP := h1.ends hM3 hrow' hm4 hown
      have hp4 : A.g ∉ v'.e.ownBlock.toList := fun hx => (sep_iff.1 h1.sep).1.2.1 (by simpa using hx)
      have g1 := hm4.cell (x := ⟨A.g, 1, none⟩) hp4 K3.c1
      have gf1 := (hm4.frozen (x := ⟨A.g, 1, none⟩) hp4 K3.lg).trans (K3.f 1)
      have k30 : (wr.alloc (.cells #[.int .i64 (N : Int)] 3)).cell? ⟨A.g, 0, none⟩ = some (.slice B0 N c0) := by rw [← hp]; exact K3.c0
      have k31 : (wr.alloc (.cells #[.int .i64 (N : Int)] 3)).cell? ⟨A.g, 1, none⟩ = some (.slice B1 D c1) := by rw [← he]; exact K3.c1
      rw [he] at hr g1
      have lg := h1.lg
      have lg' : A.g < w'.heap.size := World.block_lt_of_cell? _ _ g1
      have hc2 := hAP.1.c1
      dsimp only at hc2
      have hlg2 := hAP.1.lg
      have hDw : wrap64 ((D : Int) + 1) = (D : Int) + 1 := IntWalk.wrap64_in _ (by omega)
      have HF := Lib.hid (And.intro hAP (And.intro h2 (And.intro h3 hD)))
      clear hi h1 h2 h3 hjn etk hfl hN hp he hM3 K3 hc hre hrow hrow' hm4 hown hAP hp4 e1 hD hn hx hall hB hd
      replace hr : (L10.appInts 72 _).run Tryz.prog _ = .ok (.slice A' (D + 1) cap') w' := hr
      go_upto_region 6 with fail
      go_region
      all_goals
        clear hr k30 k31 k0 k1 g1 gf1
        generalize (w'.setCell ⟨A.g, 1, none⟩ (.slice A' (D + 1) cap')) = w6 at *
        go_wp2_with fail
        go_ret
        obtain ⟨⟨q1, q2, q3⟩, h2, h3, hD⟩ := HF.out
        have z1 := HM.out.size
        have z2 := h2.size
        refine ⟨by rw [← hD]; rfl, _, q1, (HM.out.up (by simp)).trans (h2.then q2 h3), fun y hy => ?_⟩
        rcases q3 y hy with e | e
        · rcases h3 y e with e | e
          · exact Or.inl e
          · exact Or.inr (by omega)
        · exact Or.inr (by omega)
end
end Go.Proofs.YtifnkmddinoneaaGreatDoor
namespace Go.Proofs.YtifnkmddinoneaaGreatDoor
open Go.RowKit
set_option linter.unusedVariables false
section
variable {w w' : World} {A : Ag} {E : Es} {T : List Nat}
theorem defs_calls {v : Vr} (h : Eown w A v E) (D : Nat) (hD : D = E.D.length) : Calls Tryz.prog 40 #[Pt A.g] w fun e w' => e = .returned (.int .i64 (D : Int)) ∧ w = w' := by
  have c1 := h.c1
  obtain ⟨Be, ce, he⟩ := row_slice h.re
  rw [he, ← hD] at c1
  clear h he hD
  go_enter Tryz.func40, Tryz.ntmps40
  go_wp2_with fail
  go_ret
  exact ⟨rfl, rfl⟩
theorem sum_le : ∀ D : List (List L10.Xi), (∀ l ∈ D, l.length ≤ 500) → D.flatten.length ≤ D.length * 500
  | [], _ => by simp
  | l :: r, h => by
    have h1 := h l (by simp)
    have h2 := sum_le r fun x hx => h x (by simp [hx])
    rw [List.flatten_cons, List.length_append, List.length_cons]
    omega
set_option maxRecDepth 100000 in
set_option maxHeartbeats 4000000 in
theorem define_calls (h : Eg w A T E) (g : L10.Good w) {B : Option Addr} {n cap : Nat} {l : List L10.Xi} (hL : L10.InsAt w B l) (hn : n = l.length) (hm : L10.MayP l (E.W.length : Int)) (hx : ∀ x ∈ l, OkX x) (hd : E.D.length < 300) (hB : ∀ b o, B = some ⟨b, o, none⟩ → b ∉ T) :
    Calls Tryz.prog 12 #[Pt A.g, L10.defV B n cap] w (Plays A T w (.tuple #[.int .i64 ((E.D.length : Int) + 1), .int .i64 0]) { E with D := E.D ++ [l] }) := by
  have m := L14.al_mod w (.cells #[.slice B n cap] 24)
  have hbn : n ≤ 500 := by rw [hn]; exact hm.1
  have hl1 : 1 ≤ l.length := by
    obtain ⟨_, o, x, v, h1, h2, _⟩ := hm
    have := h1.pos
    omega
  have H1 := Lib.hid fun W (k : Mod [] w W) => L10.may_calls (g.far k) (hL.far k) hn (by omega) (cap := cap) (E.W.length : Int)
  have h0 := h.far m
  obtain ⟨v, Ts, Tf, Ti, hV⟩ := h0
  have c1 := hV.own.c1
  have c2 := hV.own.c2
  obtain ⟨Be, ce, he⟩ := row_slice hV.own.re
  obtain ⟨Bw, cw, hw⟩ := row_slice hV.own.rw
  rw [he] at c1
  rw [hw] at c2
  have lg := hV.own.lg
  have hall := sum_le E.D fun l hl => (h.ok.x l hl).2.2
  have HH := Lib.hid (And.intro h (And.intro hL (And.intro hn (And.intro hm (And.intro hx (And.intro hd (And.intro hB (And.intro hbn (And.intro hl1 (And.intro hall (And.intro hV (And.intro m (And.intro he hw)))))))))))))
  obtain ⟨D, hD⟩ : ∃ D, D = E.D.length := ⟨_, rfl⟩
  obtain ⟨N, hN⟩ : ∃ N, N = E.W.length := ⟨_, rfl⟩
  rw [← hD] at c1 hd ⊢
  rw [← hN] at c2 H1
  have HDN := Lib.hid (And.intro hD hN)
  have hdI : ¬ (300 : Int) ≤ (D : Int) := by omega
  clear h g hL hn hm hx hB hbn hl1 hall hV m he hw hD hN
  unfold L10.defV at H1 ⊢
  go_enter Tryz.func12, Tryz.ntmps12
  go_wp2_with fail
  have x0 : (w.alloc (.cells #[.slice B n cap] 24)).cell? ⟨w.heap.size, 0, none⟩ = some (.slice B n cap) := L14.cell_eq (MapKept.heap_alloc w (.cells #[.slice B n cap] 24)).1 0
  have hm := HH.out.2.2.2.2.2.2.2.2.2.2.2.1
  generalize (w.alloc (.cells #[.slice B n cap] 24)) = X at *
  have hD := (Mod.refl [] X).drew
  have H1x := Lib.hid (H1.out X.drew (hm.trans hD))
  have C0 := hD.cell (x := ⟨w.heap.size, 0, none⟩) (by simp) x0
  have C2 := hD.cell (x := ⟨A.g, 2, none⟩) (by simp) c2
  clear H1 hm
  go_region_held3 (fun W => W.cell? ⟨w.heap.size, 0, none⟩ = some (.slice B n cap) ∧ W.cell? ⟨A.g, 2, none⟩ = some (.slice Bw N cw)) (first | with_reducible exact ⟨C0, C2⟩ | with_reducible exact ⟨E0, E2⟩ | fail)
    (first | ((with_reducible refine (H1x.out).mono ?_); rintro e w2 ⟨r, rfl, hr, m2⟩; have E0 := m2.cell (x := ⟨w.heap.size, 0, none⟩) (by simp) C0; have E2 := m2.cell (x := ⟨A.g, 2, none⟩) (by simp) C2) | fail)
  all_goals
    have hr1 : r = true := by rw [HDN.out.2] at hr; exact hr.2 HH.out.2.2.2.1
    subst hr1
    obtain ⟨h, hL, hn, hm, hx, hd', hB, hbn, hl1, hall, hV, m, he, hw⟩ := HH.out
    have hV2 := hV.far (hD.trans m2)
    have H2 := Lib.hid (defs_calls hV2.own D HDN.out.1)
    have hE := (Mod.refl [] w2).drew
    have H3 := Lib.hid (cadd_calls (hV2.own.mod hE (by simp)) (hL.far ((m.trans (hD.trans m2)).trans hE)) hn hx hbn (by rw [← HDN.out.1]; omega) (by omega) (fun b o e hb => hB b o e (hV2.sub b (Or.inl hb))) (cap := cap))
    have lg2 := hV2.own.lg
    have HV := Lib.hid (And.intro (hV2.far hE) ((m.trans (hD.trans m2)).trans hE))
    have F0 := hE.cell (x := ⟨w.heap.size, 0, none⟩) (by simp) E0
    have hbx : w.heap.size ∉ Ow15 A v := fun hx => by have := h.tl _ (hV2.sub _ (Or.inl hx)); omega
    unfold L10.defV at H3
    clear h hL hn hm hx hd' hB hbn hl1 hall hV m he hw hV2 hr hD C0 C2 x0 c1 c2 H1x m2 lg E0 E2
    go_wp2_with fail
    refine (H2.out).mono ?_
    rintro e w3 ⟨rfl, rfl⟩
    go_wp2_with fail
    go_region_held3 (fun W => W.cell? ⟨w.heap.size, 0, none⟩ = some (.slice B n cap)) (first | with_reducible exact F0 | with_reducible exact G0 | fail)
      (first | ((with_reducible refine (H3.out).mono ?_); rintro e w3 ⟨rfl, v', q1, q2, q3⟩; have G0 := q2.cell (x := ⟨w.heap.size, 0, none⟩) hbx F0) | fail)
    have HQ := Lib.hid (And.intro q1 (And.intro q2 q3))
    clear q1 q2 q3 F0 G0 hE
    go_wp2_with fail
    refine bodyPost_ret (v := .tuple #[.int .i64 ((E.D.length : Int) + 1), .int .i64 0]) (by simp [results, Tryz.results12, go_sem]) rfl ?_
    obtain ⟨h, hL, hn, hm, hx, hd', hB, hbn, hl1, hall, hV, m, he, hw⟩ := HH.out
    obtain ⟨q1, q2, q3⟩ := HQ.out
    have hok := h.ok
    obtain ⟨a1, a2⟩ := HV.out.1.owns q2 q3 q1 rfl rfl rfl rfl rfl ⟨fun y hy => (List.mem_append.1 hy).elim (hok.x y) (fun e => by rw [List.mem_singleton.1 e]; exact ⟨hx, hl1, by omega⟩), hok.w, hok.f, by have := HDN.out.1; simp; omega, hok.wl, hok.di⟩
    exact ⟨by rw [HDN.out.1], _, ⟨_, _, _, _, a1⟩, (Tn.far HV.out.2).trans a2⟩
end
end Go.Proofs.YtifnkmddinoneaaGreatDoor
namespace Go.Proofs.YtifnkmddinoneaaGreatDoor
open Go.RowKit
set_option linter.unusedVariables false
section
variable {w w' : World} {A : Ag} {E : Es} {T : List Nat}
theorem gstate_calls (h : Eg w A T E) : Calls Tryz.prog 14 #[Pt A.g] w fun e w' => e = .returned (Pt A.a.s) ∧ w = w' := by
  have c3 := h.cs.c3
  have lg : A.g < w.heap.size := World.block_lt_of_cell? _ _ c3
  clear h
  go_enter Tryz.func14, Tryz.ntmps14
  go_wp2_with fail
  go_ret
  exact ⟨rfl, rfl⟩
theorem gframes_calls (h : Eg w A T E) : Calls Tryz.prog 17 #[Pt A.g] w fun e w' => e = .returned (Pt A.f) ∧ w = w' := by
  have c5 := h.cs.c5
  have lg : A.g < w.heap.size := World.block_lt_of_cell? _ _ c5
  clear h
  go_enter Tryz.func17, Tryz.ntmps17
  go_wp2_with fail
  go_ret
  exact ⟨rfl, rfl⟩
def Made15 (w : World) (e : Ending) (w' : World) : Prop := ∃ A T, e = .returned (Pt A.g) ∧ Eg w' A T (newE [] (mu0 1024) [] 0) ∧ Mod [] w w' ∧ ∀ x ∈ T, w.heap.size ≤ x
set_option maxRecDepth 100000 in
set_option maxHeartbeats 4000000 in
theorem made15 (w : World) (hg : Good w) : Calls Tryz.prog 37 #[] w (Made15 w) := by
  have H1 := Lib.hid (new_calls13 1024 w hg (by omega) (by omega) rfl)
  have HG := Lib.hid hg.big
  clear hg
  go_enter Tryz.func37, Tryz.ntmps37
  go_wp2_with fail
  refine (H1.out).mono ?_
  rintro e w1 ⟨a, rfl, h1, m1, t1, l1⟩
  have H2 := Lib.hid (stack_of h1)
  have H3 := Lib.hid (mem_of h1)
  have HS := Lib.hid (And.intro h1 (And.intro m1 (And.intro t1 l1)))
  clear h1 m1 t1 l1 H1
  go_wp2_with fail
  refine (H2.out).mono ?_
  rintro e w2 ⟨rfl, rfl⟩
  go_wp2_with fail
  refine (H3.out).mono ?_
  rintro e w2 ⟨rfl, rfl⟩
  have H4 := Lib.hid (L8.new_calls w1)
  clear H2 H3
  go_wp2_with fail
  refine (H4.out).mono ?_
  rintro e w2 ⟨p, rfl, h2, m2, l2⟩
  have H5 : RowKit.Hid (Calls Tryz.prog 27 #[Pt a.s, Pt p] w2 (NewG w2 a p (tsOf a) [p] (newE [] (mu0 1024) [] 0))) := Lib.hid (by
    obtain ⟨h1, m1, t1, l1⟩ := HS.out
    have hh := h1.hi
    have hb := HG.out
    have hz := m1.size
    exact new_calls15 (h1.other m2 (by simp) (by simp) (by simp)) h2 (fun x hx hy => by have := h1.tl x hx; rw [List.mem_singleton.1 hy] at this; omega) (fun x hx => by have := t1 x hx; omega) (fun x hx => by rw [List.mem_singleton.1 hx]; exact ⟨Or.inr (by omega), by omega⟩))
  have HP := Lib.hid (And.intro m2 l2)
  clear h2 m2 l2 H4
  go_wp2_with fail
  refine (H5.out).mono ?_
  rintro e w3 ⟨A, T, rfl, ha, hp, h3, m3, t3⟩
  have H6 := Lib.hid (gstate_calls h3)
  have H7 := Lib.hid (gframes_calls h3)
  have HQ := Lib.hid (And.intro h3 (And.intro m3 t3))
  clear h3 m3 t3 H5 ha hp
  go_wp2_with fail
  refine (H6.out).mono ?_
  rintro e w4 ⟨rfl, rfl⟩
  go_wp2_with fail
  refine (H7.out).mono ?_
  rintro e w4 ⟨rfl, rfl⟩
  go_wp2_with fail
  go_ret
  obtain ⟨h1, m1, t1, l1⟩ := HS.out
  obtain ⟨m2, l2⟩ := HP.out
  obtain ⟨h3, m3, t3⟩ := HQ.out
  have z1 := m1.size
  have z2 := m2.size
  refine ⟨A, T, rfl, h3, (m1.trans m2).trans m3, fun x hx => ?_⟩
  rcases t3 x hx with e | e | e
  · exact t1 x e
  · rw [List.mem_singleton.1 e]; omega
  · omega
end
end Go.Proofs.YtifnkmddinoneaaGreatDoor
namespace Go.Proofs.YtifnkmddinoneaaGreatDoor
open Go.RowKit
set_option linter.unusedVariables false
def wdT (x : L12.En) : Wd := ⟨x.k, x.n, 0⟩
def builtE (j : Nat) : Es := { newE [] (mu0 1024) [] 0 with W := (L12.tab.take j).map wdT }
theorem tab_valid : ∀ j : Fin 180, (fun x : L12.En => (x.k = 1 ∧ x.n ≤ 107 ∨ x.k = 2 ∧ x.n ≤ 9 ∨ x.k = 3 ∧ x.n ≤ 17 ∨ x.k = 4 ∧ x.n ≤ 47) ∧ 1 ≤ x.n) (L12.tab[j.val]'(by have := j.isLt; rw [L12.tab_len]; omega)) := by decide +kernel
theorem wdT_valid {E : Es} {j : Nat} (hj : j < L12.tab.length) : Valid E (wdT L12.tab[j]) ∧ OkW (wdT L12.tab[j]) := by
  obtain ⟨h, h1⟩ := tab_valid ⟨j, by rw [L12.tab_len] at hj; exact hj⟩
  dsimp only at h h1
  generalize L12.tab[j] = x at *
  refine ⟨Or.inl ⟨?_, ?_, ?_⟩, ?_, ?_, ?_, ?_, ?_⟩
  · show x.k = 1 ∨ x.k = 2 ∨ x.k = 3 ∨ x.k = 4; omega
  · show 1 ≤ (x.n : Int); omega
  · show (x.n : Int) ≤ manyF x.k
    rcases h with ⟨e, h⟩ | ⟨e, h⟩ | ⟨e, h⟩ | ⟨e, h⟩ <;> (rw [e]; unfold manyF; simp; omega)
  · show 1 ≤ x.k; omega
  · show x.k ≤ 9; omega
  · show I64 (x.n : Int); unfold I64; omega
  · exact i64_0
  · intro e; have e : x.k = 2 := e; show 1 ≤ (x.n : Int) ∧ (x.n : Int) ≤ 9; omega
theorem builtE_succ {j : Nat} (hj : j < L12.tab.length) : { builtE j with W := (builtE j).W ++ [wdT L12.tab[j]] } = builtE (j + 1) := by
  unfold builtE
  dsimp only
  rw [List.take_succ_eq_append_getElem hj, List.map_append]
  rfl
theorem builtE_len {j : Nat} (hj : j ≤ L12.tab.length) : (builtE j).W.length = j := by
  unfold builtE
  dsimp only
  rw [List.length_map, List.length_take]; omega
theorem add_table {w : World} {A : Ag} {T : List Nat} {j : Nat} (h : Eg w A T (builtE j)) (hj : j < L12.tab.length) : Calls Tryz.prog 13 #[Pt A.g, .agg #[.int .i64 L12.tab[j].k, .int .i64 (L12.tab[j].n : Int), .int .i64 0]] w (Plays A T w (.tuple #[.int .i64 ((j : Int) + 1), .int .i64 0]) (builtE (j + 1))) := by
  have h1 := wdT_valid (E := builtE j) hj
  have hl := builtE_len (Nat.le_of_lt hj)
  have ht := L12.tab_len
  have := eadd_calls h (wdT L12.tab[j]) h1.1 h1.2 (by omega)
  rw [builtE_succ hj, hl] at this
  exact this
def Built15 (j : Nat) (w : World) (e : Ending) (w' : World) : Prop := ∃ A T, e = .returned (Pt A.g) ∧ Eg w' A T (builtE j) ∧ Mod [] w w' ∧ ∀ x ∈ T, w.heap.size ≤ x
set_option maxRecDepth 100000 in
set_option maxHeartbeats 4000000 in
theorem built15 (w : World) (hg : Good w) : Calls Tryz.prog 11 #[] w (Built15 180 w) := by
  have H1 := Lib.hid (made15 w hg)
  have A1 := Lib.hid fun W => L12.rall_calls W
  clear hg
  go_enter Tryz.func11, Tryz.ntmps11
  go_wp2_with fail
  refine (H1.out).mono ?_
  rintro e w1 ⟨A0, T0, rfl, h1, m1, t1⟩
  have HS := Lib.hid (And.intro h1 (And.intro m1 t1))
  clear h1 m1 t1 H1
  go_wp2_with fail
  refine (A1.out _).mono ?_
  rintro e w2 ⟨v, rfl, er, m2⟩
  have hown := er.own
  obtain ⟨A, c, rfl, hE⟩ := er.at
  rw [L12.tab_len]
  have HB := Lib.hid (fun b (hb : A = some ⟨b, 0, none⟩) => by rw [hb] at hown; exact hown b rfl : ∀ b, A = some ⟨b, 0, none⟩ → w1.heap.size ≤ b)
  have HE := Lib.hid hE
  have M2 := Lib.hid m2
  have HL := Lib.hid er.lt
  clear hown m2 er hE
  go_wp2_with fail
  have HM1 := Lib.hid HS.out.2.1
  go_loopw [9] (fun y wr => ∃ j : Nat, y = .int .i64 (j : Int) ∧ j ≤ 180 ∧ RowKit.Hid (∃ T, Eg wr A0 T (builtE j) ∧ Mod [] w wr ∧ (∀ x ∈ T, w.heap.size ≤ x) ∧ (∀ b, A = some ⟨b, 0, none⟩ → b ∉ T) ∧ Mod T0 w2 wr ∧ (∀ x ∈ T, x ∈ T0 ∨ w2.heap.size ≤ x))) (fun y _ => 181 - (intOf y).toNat)
  case atStart =>
    refine ⟨0, rfl, by omega, Lib.hid ⟨T0, HS.out.1.far M2.out, HS.out.2.1.trans M2.out, HS.out.2.2, fun b hb hx => ?_, Mod.refl _ _, fun x hx => Or.inl hx⟩⟩
    have h1 := HB.out b hb
    have h2 := HS.out.1.tl b hx
    omega
  case round =>
    obtain ⟨j, rfl, hj, hi⟩ := hrel
    obtain ⟨T, h1, h2, h3, h4, h5, h6⟩ := hi.out
    by_cases hlt : j < 180
    · have hjI : (j : Int) < 180 := by omega
      have hjX : j < L12.tab.length := by rw [L12.tab_len]; exact hlt
      obtain ⟨b, rfl, g0, g1, g2, g3, g4⟩ := HE.out j hjX
      have hbT : b ∉ T0 := fun hx => by
        have h1 := HB.out b rfl
        have h2 := HS.out.1.tl b hx
        omega
      replace g0 := h5.cell hbT g0
      replace g1 := h5.cell hbT g1
      replace g2 := h5.cell hbT g2
      replace g3 := h5.cell hbT g3
      replace g4 := h5.cell hbT g4
      have hb2 := World.block_lt_of_cell? _ _ g0
      dsimp only at hb2
      have HA := fun W (k : Mod [] wr W) => add_table (h1.far k) hjX
      have wj : wrap64 ((j : Int) + 1) = (j : Int) + 1 := IntWalk.wrap64_in _ (by omega)
      generalize L12.tab[j] = x at *
      obtain ⟨N, hN⟩ : ∃ N, N = str x.s := ⟨_, rfl⟩
      rw [← hN] at g0
      have m3 : Mod [] wr (wr.alloc (.cells #[.string N, .int .i64 x.k, .int .i64 (x.n : Int), .bool x.now, .bool x.only] 79)) := (Mod.refl [] wr).alloc _
      have b5 := L12.Bx5.new wr (.string N) (.int .i64 x.k) (.int .i64 (x.n : Int)) (.bool x.now) (.bool x.only) 79
      have hqT : wr.heap.size ∉ T := fun hx => by have := h1.tl _ hx; omega
      have HI := Lib.hid (And.intro h1 (And.intro h2 (And.intro h3 (And.intro h4 (And.intro h5 (And.intro h6 m3))))))
      clear hi h1 h2 h3 h4 h5 h6 hN
      go_upto_region 5 with fail
      generalize wr.alloc (.cells #[.string N, .int .i64 x.k, .int .i64 (x.n : Int), .bool x.now, .bool x.only] 79) = X at *
      have HA2 := Lib.hid (HA X m3)
      have d1 := b5.c1
      have d2 := b5.c2
      clear g0 g1 g2 g3 g4 HA m3 b5
      go_wp2_with fail
      refine (HA2.out).mono ?_
      rintro e w3 ⟨rfl, T3, q3, t3⟩
      have HQ := Lib.hid (And.intro q3 t3)
      clear q3 t3 d1 d2
      go_wp2_with fail
      go_roundw
      case rel =>
        obtain ⟨h1, h2, h3, h4, h5, h6, m3⟩ := HI.out
        obtain ⟨q3, t3⟩ := HQ.out
        have z3 := m3.size
        have z5 := h5.size
        have kk : Mod T wr w3 := (m3.up (by simp)).trans t3.m
        refine ⟨j + 1, by go_num, by omega, Lib.hid ⟨T3, q3, h2.then kk fun x hx => Or.inr (h3 x hx), fun x hx => (t3.new x hx).elim (h3 x) fun e => by have := h2.size; omega, fun b' hb' hx => ?_, h5.then kk h6, fun x hx => ?_⟩⟩
        · rcases t3.new _ hx with e | e
          · exact h4 b' hb' e
          · injection hb' with hb'; injection hb' with hb' _ _; omega
        · rcases t3.new _ hx with e | e
          · exact h6 x e
          · exact Or.inr (by omega)
      case measure => simp [intOf]; omega
    · have hjI : ¬ (j : Int) < 180 := by omega
      have hj2 : j = 180 := by omega
      subst hj2
      have HI := Lib.hid (And.intro h1 (And.intro h2 h3))
      clear hi h1 h2 h3 h4 h5 h6
      go_wp2_with fail
      go_ret
      obtain ⟨h1, h2, h3⟩ := HI.out
      exact ⟨A0, T, rfl, h1, h2, h3⟩
end Go.Proofs.YtifnkmddinoneaaGreatDoor
namespace Go.Proofs.YtifnkmddinoneaaGreatDoor
open Go.RowKit
set_option linter.unusedVariables false
section
variable {w w' : World} {A : Ag} {E : Es} {T : List Nat}
def StepInv (A : Ag) (Inv : Nat → Es → Prop) (Fin : Sv → Es → Prop) (most : Nat) : Prop := ∀ j E W T, j < most → Inv j E → Eg W A T E → Calls Tryz.prog 31 #[Pt A.g] W (fun e w' => ∃ s E', Plays A T W (stV s) E' e w' ∧ (s.1 = 1 → Inv (j + 1) E') ∧ (s.1 ≠ 1 → Fin s E'))
def RunTo (A : Ag) (T : List Nat) (w : World) (Inv : Nat → Es → Prop) (Fin : Sv → Es → Prop) (most : Nat) (e : Ending) (w' : World) : Prop := ∃ s E', Plays A T w (stV s) E' e w' ∧ (Fin s E' ∨ s = (1, 0, 0) ∧ Inv most E')
set_option maxRecDepth 100000 in
set_option maxHeartbeats 4000000 in
theorem run_gen (h : Eg w A T E) (Inv : Nat → Es → Prop) (Fin : Sv → Es → Prop) (most : Nat) (hs : StepInv A Inv Fin most) (h0 : Inv 0 E) (hm : most ≤ 100000) : Calls Tryz.prog 20 #[Pt A.g, .int .i64 (most : Int)] w (RunTo A T w Inv Fin most) := by
  have HS := Lib.hid hs
  have HH := Lib.hid h
  have hx := h.far (L14.al_mod w zst)
  have bk := (MapKept.heap_alloc w zst).1
  have HX := Lib.hid (And.intro hx (And.intro bk h0))
  have lg : A.g < w.heap.size := World.block_lt_of_cell? _ _ h.cs.c3
  have HBX := Lib.hid (fun W T3 E2 (tn : Tn T T3 (w.alloc zst) W) (h' : Eg W A T3 E2) => box_beside HH.out tn h')
  clear hs h hx bk h0
  go_enter Tryz.func20, Tryz.ntmps20
  go_wp2_with fail
  generalize (w.alloc zst) = w1 at *
  go_loopw [7] (fun y wr => ∃ j : Nat, y = .int .i64 (j : Int) ∧ j ≤ most ∧ RowKit.Hid (∃ T' E', Eg wr A T' E' ∧ Tn T T' w1 wr ∧ Inv j E')) (fun y _ => most + 1 - (intOf y).toNat)
  case atStart => exact ⟨0, rfl, by omega, Lib.hid ⟨T, E, HX.out.1, Tn.refl _ _, HX.out.2.2⟩⟩
  case round =>
    obtain ⟨j, rfl, hj, hi⟩ := hrel
    obtain ⟨T', E', h1, t1, i1⟩ := hi.out
    by_cases hlt : j < most
    · have hjI : (j : Int) < (most : Int) := by omega
      have H1 := Lib.hid (HS.out j E' wr T' hlt i1 h1)
      have wj : wrap64 ((j : Int) + 1) = (j : Int) + 1 := IntWalk.wrap64_in _ (by omega)
      have HT := Lib.hid t1
      clear hi h1 t1 i1
      go_wp2_with fail
      refine (H1.out).mono ?_
      rintro e w3 ⟨s, E2, ⟨rfl, T3, q3, t3⟩, k1, k2⟩
      obtain ⟨s0, s1, s2⟩ := s
      unfold stV
      dsimp only at k1 k2 ⊢
      have HQ := Lib.hid (And.intro q3 (And.intro (HT.out.trans t3) (And.intro k1 k2)))
      clear q3 t3 k1 k2 H1
      by_cases he : s0 = 1
      · have heb : (s0 != 1) = false := by simpa using he
        have HE := Lib.hid he
        clear he
        go_wp2_with fail
        go_roundw
        case rel => exact ⟨j + 1, by go_num, by omega, Lib.hid ⟨T3, E2, HQ.out.1.far (L14.al_mod _ _), HQ.out.2.1.trans (Tn.far (L14.al_mod _ _)), HQ.out.2.2.1 HE.out⟩⟩
        case measure => simp [intOf]; omega
      · have heb : (s0 != 1) = true := by simpa using he
        have HE := Lib.hid he
        obtain ⟨b1, b2⟩ := HBX.out _ _ _ HQ.out.2.1 HQ.out.1
        obtain ⟨c0, c1, c2, g0, g1, g2⟩ := three_at b1
        have l1 : w.heap.size < w3.heap.size := (Array.getElem?_eq_some_iff.1 b1).1
        have HB := Lib.hid (And.intro b1 b2)
        clear b1 b2 he
        go_wp2_with fail
        obtain ⟨b1, b2⟩ := HB.out
        obtain ⟨k1, k2⟩ := three_set b1 (.int .i64 s0) (.int .i64 s1) (.int .i64 s2)
        obtain ⟨h5, t5⟩ := b2 _ k2
        have kk := ((L14.al_mod (threeSet w3 w.heap.size (.int .i64 s0) (.int .i64 s1) (.int .i64 s2)) (.cells #[.int .i64 s0, .int .i64 s1, .int .i64 s2] TS15)).block w.heap.size (Array.getElem?_eq_some_iff.1 k1).1 (by simp)).trans k1
        exact bodyPost_ret (res_st Tryz.results20 rfl kk) rfl ⟨(s0, s1, s2), E2, ⟨rfl, _, h5.far (L14.al_mod _ _), t5.trans (Tn.far (L14.al_mod _ _))⟩, Or.inl (HQ.out.2.2.2 HE.out)⟩
    · have hjI : ¬ (j : Int) < (most : Int) := by omega
      have hjm : j = most := by omega
      have HI := Lib.hid (And.intro h1 (And.intro t1 (hjm ▸ i1)))
      obtain ⟨b1, b2⟩ := HBX.out _ _ _ t1 h1
      obtain ⟨c0, c1, c2, g0, g1, g2⟩ := three_at b1
      have HB := Lib.hid (And.intro b1 b2)
      clear hi b1 b2 h1 t1 i1 hjm
      go_wp2_with fail
      obtain ⟨b1, b2⟩ := HB.out
      obtain ⟨k1, k2⟩ := three_set b1 (.int .i64 1) (.int .i64 0) (.int .i64 0)
      obtain ⟨h5, t5⟩ := b2 _ k2
      exact bodyPost_ret (res_st Tryz.results20 rfl k1) rfl ⟨(1, 0, 0), E', ⟨rfl, _, h5, t5⟩, Or.inr ⟨rfl, HI.out.2.2⟩⟩
end
end Go.Proofs.YtifnkmddinoneaaGreatDoor
