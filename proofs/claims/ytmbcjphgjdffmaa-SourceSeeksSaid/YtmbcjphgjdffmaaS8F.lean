/- Layer 8 (package source): inputs begin; sources are opened, closed, cut. Condition: the block is an input (Inp). -/
import Derived.Test.YtmbcjphgjdffmaaS8E
import Derived.Lib.SliceRun
import Derived.Maps.AppendAt
namespace Go.Proofs.Ytmbcjphgjdffmaa
open Go.RowKit
set_option linter.unusedVariables false

theorem zero_in (W : World) : (zeroValue 46).run Try.prog W = .ok (.agg #[.slice none 0 0, .int .i64 0]) W := by kernel_rfl
theorem new_calls (w : World) : Calls Try.prog 8 #[] w fun e w' => ∃ p, e = .returned (Pt p) ∧ Inp w' p [p] [] 0 ∧ Mod [] w w' ∧ w.heap.size ≤ p := by
  go_enter Try.func8, Try.ntmps8
  go_wp2
  go_ret
  have hb := (MapKept.heap_alloc w (.cells #[.slice none 0 0, .int .i64 0] 46)).1
  refine ⟨w.heap.size, rfl, ⟨.slice none 0 0, ⟨?_, ?_, fun i => ?_, ?_, World.ownsRow_nil _ _ _ _, by simp [Value.ownBlock], by simp, by simp⟩, rfl⟩, (Mod.refl [] w).alloc _, Nat.le_refl _⟩
  · simp only [World.cell?, hb]; rfl
  · simp only [World.cell?, hb]; rfl
  · simp only [World.frozen?, hb]; rfl
  · show _ < (w.heap.push _).size; simp
theorem open_none (s : ByteArray) (w : World) : Calls Try.prog 9 #[.pointer none, .string s] w fun e w' => e = .returned (.int .i64 2) ∧ w = w' := by
  go_enter Try.func9, Try.ntmps9
  go_wp2
  go_ret
  exact ⟨rfl, rfl⟩
theorem open_long {w : World} {p : Nat} {S : List Nat} {L : List Sc} {M : Nat} (h : Inp w p S L M) (s : ByteArray) (hs : 1000 < s.size) (hs2 : s.size ≤ 4611686018427387904) : Calls Try.prog 9 #[Pt p, .string s] w fun e w' => e = .returned (.int .i64 3) ∧ w = w' := by
  have hs1 : (1000 : Int) < (s.size : Int) := by omega
  clear h hs
  go_enter Try.func9, Try.ntmps9
  go_wp2
  go_ret
  exact ⟨rfl, rfl⟩
theorem open_deep {w : World} {p : Nat} {S : List Nat} {L : List Sc} {M : Nat} (h : Inp w p S L M) (s : ByteArray) (hs : s.size ≤ 1000) (hl : 8 ≤ L.length) : Calls Try.prog 9 #[Pt p, .string s] w fun e w' => e = .returned (.int .i64 (-5)) ∧ w = w' := by
  obtain ⟨v, h, _⟩ := h
  obtain ⟨A, cap, rfl⟩ := h.opened
  have h0 := h.c0
  have hd := h.dep
  have hs1 : ¬ (1000 : Int) < (s.size : Int) := by omega
  have hl1 : (8 : Int) ≤ (L.length : Int) := by omega
  obtain ⟨n, hn⟩ : ∃ n, n = L.length := ⟨_, rfl⟩
  rw [← hn] at h0 hl1 hd
  clear h hl hn hs
  go_enter Try.func9, Try.ntmps9
  go_wp2
  go_ret
  exact ⟨rfl, rfl⟩
theorem Try.infoSrc : (Try.prog.info? 50).map (fun i => (i.zero, i.size, i.bytes)) = some (some (.agg #[.string ⟨#[]⟩, .int .i64 0, .int .i64 0]), 3, 32) := by kernel_rfl
theorem InpV.opn {w : World} {p : Nat} {v : Value} {L : List Sc} {M : Nat} (h : InpV w p v L M) : InpV (w.setCell ⟨p, 1, none⟩ (.int .i64 ((M + 1 : Nat) : Int))) p v L (M + 1) := by
  have hm : Mod [p] w (w.setCell ⟨p, 1, none⟩ (.int .i64 ((M + 1 : Nat) : Int))) := (Mod.refl [p] w).set (x := ⟨p, 1, none⟩) (Or.inl (by simp)) _
  refine ⟨?_, World.cell?_setCell_same _ _ _ (h := h.c1), fun i => (World.frozen?_setCell _ _ _ _).trans (h.f i), Nat.lt_of_lt_of_le h.lp hm.size, row_mod h.row hm fun g hg => ?_, h.sep, h.ok, h.dep⟩
  · rw [World.cell?_setCell_other (h := by simp)]
    exact h.c0
  · intro hx
    exact h.sep (by rw [hg]; simpa using hx)
theorem run_appR {w : World} {v : Value} {L : List Sc} (h : w.ownsRow 0 50 3 v L.length (flats L)) (hl : L.length ≤ 8) (x : Sc) (a : Addr) (cp : Nat) (hc : ∀ j u, (flat x)[j]? = some u → w.cell? (a.add j) = some u) (ty : TypeId) :
    ∃ v' w', (Builtin.append_ #[44, 44] ty #[v, .slice (some a) 1 cp]).run Try.prog w = .ok v' w' ∧ w'.ownsRow 0 50 3 v' (L ++ [x]).length (flats (L ++ [x])) ∧ Mod v.ownBlock.toList w w' ∧ (v'.ownBlock = v.ownBlock ∨ v'.ownBlock = some w.heap.size) := by
  obtain ⟨i, hi, hz0, hz1, hz2⟩ := info_parts Try.infoSrc
  have hm : maxLen = 9223372036854775807 := rfl
  obtain ⟨v', w', h1, h2, h3, _, h5⟩ := run_append_own_at (P := Try.prog) w 0 44 ty 50 i _ 3 32 Try.underlying44 hi hz0 hz1 hz2 rfl (by decide) _ _ _ h a 1 cp (flat x) rfl hc (fun u hu => flats_cells [x] u (by rw [flats_one]; exact hu)) (by omega) (by omega) (Nat.zero_le _)
  refine ⟨v', w', h1, ?_, Mod.of_grown h3 (by simp), h5⟩
  have e : (L ++ [x]).length = L.length + 1 := by simp
  rw [e, flats_app, flats_one]
  exact h2
/-- An append of sources: a name, so that the walk lays nothing open. -/
def appRow (ty : TypeId) (xs : Array Value) : Sem Value := Builtin.append_ #[44, 44] ty xs
@[go_sem ↓ high] theorem builtin_appRow (ty : TypeId) (cs : Array Bool) (xs : Array Value) : builtin .append #[44, 44] ty cs xs = (do pure (.value (← appRow ty xs))) := rfl
theorem src_new (W : World) (x : Sc) : ∀ j u, (flat x)[j]? = some u → (W.alloc (.cells (flat x).toArray 50)).drew.cell? ((⟨W.heap.size, 0, none⟩ : Addr).add j) = some u := fun j u hj => by
  have hb : (W.alloc (.cells (flat x).toArray 50)).drew.heap[W.heap.size]? = some (.cells (flat x).toArray 50) := (MapKept.heap_alloc W _).1
  rw [WideShapes.add_plain, Nat.zero_add, ← hj]
  simp only [World.cell?, hb]
  simp
theorem appended {W W3 w' : World} {p : Nat} {v v' : Value} {L : List Sc} {x : Sc} {M : Nat} (K : InpV W p v L M) (hM3 : Mod [] W W3) (hrow : w'.ownsRow 0 50 3 v' (L ++ [x]).length (flats (L ++ [x]))) (hm4 : Mod v.ownBlock.toList W3 w')
    (hown : v'.ownBlock = v.ownBlock ∨ v'.ownBlock = some W3.heap.size) (hl : L.length < 8) (hx : x.i ≤ x.t.length ∧ x.t.length ≤ 1000) :
    InpV (w'.setCell ⟨p, 0, none⟩ v') p v' (L ++ [x]) M ∧ Turn (p :: v.ownBlock.toList) (p :: v'.ownBlock.toList) W (w'.setCell ⟨p, 0, none⟩ v') := by
  have K3 := K.mod hM3 (by simp)
  have hp4 : p ∉ v.ownBlock.toList := by
    have := K.sep
    simpa using this
  have hs : v'.ownBlock ≠ some p := by
    rcases hown with e | e
    · rw [e]; exact K.sep
    · rw [e]
      have := K3.lp
      intro h
      injection h
      omega
  have hm5 : Mod [p] w' (w'.setCell ⟨p, 0, none⟩ v') := (Mod.refl [p] w').set (x := ⟨p, 0, none⟩) (Or.inl (by simp)) _
  refine ⟨⟨World.cell?_setCell_same _ _ _ (h := hm4.cell (x := ⟨p, 0, none⟩) hp4 K3.c0), ?_, fun i => (World.frozen?_setCell _ _ _ _).trans ((hm4.frozen (x := ⟨p, i, none⟩) hp4 K3.lp).trans (K3.f i)), Nat.lt_of_lt_of_le K3.lp (Nat.le_trans hm4.size hm5.size), row_mod hrow hm5 fun g hg => ?_, hs, ?_, by simp; omega⟩, ?_, ?_⟩
  · rw [World.cell?_setCell_other (h := by simp)]
    exact hm4.cell (x := ⟨p, 1, none⟩) hp4 K3.c1
  · intro hgp
    exact hs (by rw [hg]; simpa using hgp)
  · intro y hy
    rcases List.mem_append.1 hy with hy | hy
    · exact K.ok y hy
    · obtain rfl : y = x := by simpa using hy
      exact hx
  · exact ((hM3.up (T := p :: v.ownBlock.toList) (by simp)).trans (hm4.up fun y hy => by simp at hy ⊢; exact Or.inr hy)).trans (hm5.up (by simp))
  · intro y hy
    rcases List.mem_cons.1 hy with rfl | hy
    · exact Or.inl (by simp)
    · rcases hown with e | e
      · rw [e] at hy
        exact Or.inl (by simp at hy ⊢; exact Or.inr hy)
      · rw [e] at hy
        obtain rfl : y = W3.heap.size := by simpa [eq_comm] using hy
        exact Or.inr hM3.size
set_option maxHeartbeats 2000000 in
theorem open_ok {w : World} {p : Nat} {S : List Nat} {L : List Sc} {M : Nat} (h : Inp w p S L M) (s : List UInt8) (hs : s.length ≤ 1000) (hl : L.length < 8) (hM : M ≤ 1000000000) :
    Calls Try.prog 9 #[Pt p, .string (str s)] w (Plays p S (.int .i64 0) (L ++ [⟨s, 0, M + 1⟩]) (M + 1) w) := by
  obtain ⟨v, h, rfl⟩ := h
  have hh := h
  obtain ⟨A, cap, rfl⟩ := h.opened
  have h0 := h.c0
  have h1 := h.c1
  have hf0 := h.f 0
  have hf1 := h.f 1
  have hs1 : ¬ (1000 : Int) < ((str s).size : Int) := by rw [str_size]; omega
  have hl1 : ¬ (8 : Int) ≤ (L.length : Int) := by omega
  obtain ⟨n, hn⟩ : ∃ n, n = L.length := ⟨_, rfl⟩
  obtain ⟨T, hT⟩ : ∃ T, T = str s := ⟨_, rfl⟩
  rw [← hn] at h0 hl1 ⊢
  rw [← hT] at hs1 ⊢
  have hnb : n < 8 := by omega
  have HH := Lib.hid hh
  have hsl := hs
  clear h hl hs hh
  have HNT := Lib.hid (And.intro hn hT)
  clear hn hT
  go_enter Try.func9, Try.ntmps9
  go_upto_region 8 with fail
  have K := HH.out.opn
  have hm : Mod [p] w (w.setCell ⟨p, 1, none⟩ (.int .i64 ((M + 1 : Nat) : Int))) := (Mod.refl [p] w).set (x := ⟨p, 1, none⟩) (Or.inl (by simp)) _
  rw [show ((M + 1 : Nat) : Int) = (M : Int) + 1 by omega] at K hm
  generalize w.setCell ⟨p, 1, none⟩ (.int .i64 ((M : Int) + 1)) = W at *
  have k0 := K.c0
  have k1 := K.c1
  rw [show ((M + 1 : Nat) : Int) = (M : Int) + 1 by omega] at k1
  rw [← HNT.out.1] at k0
  have hM3 : Mod [] W (W.alloc (.cells #[.string T, .int .i64 0, .int .i64 ((M : Int) + 1)] 50)).drew := ((Mod.refl [] W).alloc _).drew
  have K3 := K.mod hM3 (by simp)
  have hc := src_new W ⟨s, 0, M + 1⟩
  have ef : (flat ⟨s, 0, M + 1⟩).toArray = #[.string T, .int .i64 0, .int .i64 ((M : Int) + 1)] := by rw [HNT.out.2]; rfl
  rw [ef] at hc
  obtain ⟨v', w', hr, hrow, hm4, hown⟩ := run_appR K3.row (by have := K3.dep; exact this) ⟨s, 0, M + 1⟩ ⟨W.heap.size, 0, none⟩ 1 hc 44
  obtain ⟨A', n', cap', rfl⟩ : ∃ A' n' cap', v' = .slice A' n' cap' := by
    rcases hrow.2 with ⟨rfl, _⟩ | ⟨g, cp, cur, rfl, _⟩
    · exact ⟨_, _, _, rfl⟩
    · exact ⟨_, _, _, rfl⟩
  have hAP := appended K hM3 hrow hm4 hown (by rw [← HNT.out.1]; exact hnb) ⟨by simp, hsl⟩
  have hp4 : p ∉ (Value.slice A L.length cap).ownBlock.toList := by
    have := K.sep
    simpa using this
  have g0 := hm4.cell (x := ⟨p, 0, none⟩) hp4 K3.c0
  have gf0 := (hm4.frozen (x := ⟨p, 0, none⟩) hp4 K3.lp).trans (K3.f 0)
  have k30 : (W.alloc (.cells #[.string T, .int .i64 0, .int .i64 ((M : Int) + 1)] 50)).cell? ⟨p, 0, none⟩ = some (.slice A n cap) := by rw [HNT.out.1]; exact K3.c0
  have k31 : (W.alloc (.cells #[.string T, .int .i64 0, .int .i64 ((M : Int) + 1)] 50)).cell? ⟨p, 1, none⟩ = some (.int .i64 ((M : Int) + 1)) := K3.c1
  have HF := Lib.hid (And.intro hAP.1 ((Turn.of (hm.up (T := p :: (Value.slice A L.length cap).ownBlock.toList) (by simp))).trans hAP.2))
  rw [← HNT.out.1] at hr g0
  clear hAP hrow hm4 hown hm hM3 K K3 hc ef hp4 h0 h1 hf0 hf1
  replace hr : (appRow 44 _).run Try.prog _ = .ok (.slice A' n' cap') w' := hr
  go_region
  all_goals
    clear hr k30 k31 k0 k1 g0 gf0
    go_wp2_with fail
    go_ret
    exact ⟨rfl, _, ⟨_, HF.out.1, rfl⟩, by rw [HNT.out.1]; exact HF.out.2⟩
end Go.Proofs.Ytmbcjphgjdffmaa
