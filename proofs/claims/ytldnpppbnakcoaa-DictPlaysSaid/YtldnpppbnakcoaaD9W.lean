/- Layer 9: the program's Add. Condition: the block is such a dictionary (Pd9). -/
import Derived.Test.YtldnpppbnakcoaaD9V
namespace Go.Proofs.Ytldnpppbnakcoaa
open Go.RowKit
set_option linter.unusedVariables false

theorem PdV.pbv {w : World} {p : Nat} {v : Value} {b : Nat} {u : Value} {Z : List (Nat × We)} {D : Di} (h : PdV w p v b u Z D) : p ≠ b ∧ v.ownBlock ≠ some p ∧ v.ownBlock ≠ some b := by
  have hn := h.nd
  unfold tailP at hn
  obtain ⟨n1, n2⟩ := List.nodup_cons.1 hn
  obtain ⟨n3, n4⟩ := List.nodup_cons.1 n2
  exact ⟨fun e => n1 (by rw [e]; simp), fun e => n1 (by rw [e]; simp), fun e => n3 (by rw [e]; simp)⟩
/-- What Add leaves, put together. -/
theorem add_end {w W2 w4 w6 : World} {p : Nat} {v v' : Value} {b : Nat} {u : Value} {Z : List (Nat × We)} {D : Di} {q : Nat} {a : We} (h : PdV w p v b u Z D) (m : Mod [] w W2) (hq : w.heap.size ≤ q) (hq2 : q < W2.heap.size)
    (wo : WoAt W2 q a (headZ Z a.l)) (rv : w4.ownsRow 0 71 1 v' (Z.length + 1) (ptsZ Z ++ [PtW q])) {o : Obj} (mC : Mod v.ownBlock.toList (W2.alloc o) w4) (hv' : v'.ownBlock = v.ownBlock ∨ v'.ownBlock = some (W2.alloc o).heap.size)
    (mp : MapP w6 b (fun n => if n = a.l then some q else headZ Z n)) (mF : Mod [b] (w4.setCell ⟨p, 0, none⟩ v').drew w6) (ha : a.n.length ≤ 31) (hl : Z.length < 2000) :
    PdV w6 p v' b u ((q, a) :: Z) { D with W := D.W ++ [a] } ∧ TurnD (p :: tailP v b u Z) (p :: tailP v' b u ((q, a) :: Z)) w w6 := by
  obtain ⟨npb, nvp, nvb⟩ := h.pbv
  have hW2 := h.mod m (by simp)
  have mB : Mod [] W2 (W2.alloc o) := (Mod.refl [] W2).alloc o
  have m24 : Mod v.ownBlock.toList W2 w4 := (mB.up (by simp)).trans mC
  have m04 : Mod v.ownBlock.toList w w4 := (m.up (by simp)).trans m24
  have mD : Mod [p] w4 (w4.setCell ⟨p, 0, none⟩ v').drew := ((Mod.refl [p] w4).set (x := ⟨p, 0, none⟩) (Or.inl (by simp)) _).drew
  have hp4 : p ∉ v.ownBlock.toList := fun hx => nvp (by simpa using hx)
  have hb4 : b ∉ v.ownBlock.toList := fun hx => nvb (by simpa using hx)
  have k0 : w4.cell? ⟨p, 0, none⟩ = some v := m04.cell hp4 h.c0
  have lp4 : p < w4.heap.size := Nat.lt_of_lt_of_le h.lp m04.size
  have hpb : p ∉ [b] := by simpa using npb
  have hvb : b < w.heap.size := h.body.mp.lt
  have hs2 : W2.heap.size ≤ (W2.alloc o).heap.size := mB.size
  have hvg : ∀ g, v'.ownBlock = some g → v.ownBlock = some g ∨ (w.heap.size ≤ g ∧ g ≠ q) := fun g hg => by
    rcases hv' with e | e
    · exact Or.inl (by rw [← e]; exact hg)
    · rw [e] at hg
      injection hg with hg
      have := m.size
      exact Or.inr ⟨by omega, by omega⟩
  have hv'p : ∀ g, v'.ownBlock = some g → g ∉ [p] := fun g hg hx => by
    simp at hx
    subst hx
    rcases hvg _ hg with e | ⟨e, _⟩
    · exact nvp e
    · have := h.lp; omega
  have hv'b : ∀ g, v'.ownBlock = some g → g ∉ [b] := fun g hg hx => by
    simp at hx
    subst hx
    rcases hvg _ hg with e | ⟨e, _⟩
    · exact nvb e
    · omega
  have hS : ∀ x ∈ p :: b :: v.ownBlock.toList, x = p ∨ x = b ∨ v.ownBlock = some x := fun x hx => by
    rcases List.mem_cons.1 hx with hx | hx
    · exact Or.inl hx
    · rcases List.mem_cons.1 hx with hx | hx
      · exact Or.inr (Or.inl hx)
      · exact Or.inr (Or.inr (by simpa using hx))
  have m26 : Mod (p :: b :: v.ownBlock.toList) W2 w6 := ((m24.up (by simp; exact fun _ h => Or.inr (Or.inr h))).trans (mD.up (by simp))).trans (mF.up (by simp))
  have hlt : ∀ x ∈ p :: b :: v.ownBlock.toList, x < w.heap.size := fun x hx => by
    rcases hS x hx with rfl | rfl | e
    · exact h.lp
    · exact hvb
    · exact (h.body.rv.lt x e).2
  refine h.add (S := p :: b :: v.ownBlock.toList) ((m.up (by simp)).trans m26) hS ?_ (fun i hi => ?_) (fun i => ?_) (rowD_mod (rowD_mod rv mD hv'p) mF hv'b) hvg hq (wo.mod m26 fun hx => by have := hlt q hx; omega) mp ha hl
  · refine mF.cell hpb ?_
    show (w4.setCell ⟨p, 0, none⟩ v').cell? _ = _
    exact World.cell?_setCell_same _ _ _ (h := k0)
  · rw [World.cell?_of_block (mF.block p (Nat.lt_of_lt_of_le lp4 mD.size) hpb)]
    show (w4.setCell ⟨p, 0, none⟩ v').cell? _ = _
    rw [World.cell?_setCell_other (h := by intro e; injection e with _ e; exact hi e.symm)]
    exact World.cell?_of_block (m04.block p h.lp hp4)
  · rw [World.frozen?_of_block (mF.block p (Nat.lt_of_lt_of_le lp4 mD.size) hpb)]
    show (w4.setCell ⟨p, 0, none⟩ v').frozen? _ = _
    rw [World.frozen?_setCell, World.frozen?_of_block (m04.block p h.lp hp4)]
    exact h.f i
theorem word_new (w1 : World) (X : ByteArray) (x c : Int) (o : Value) (s : List UInt8) (hX : X = str s) (pr : Option Nat) (ho : o = ptO pr) : WoAt (w1.alloc (.cells #[.string X, .int .i64 x, .bool false, .int .i64 c, o] 74)).drew w1.heap.size ⟨s, x, false, c⟩ pr := by
  have hb : (w1.alloc (.cells #[.string X, .int .i64 x, .bool false, .int .i64 c, o] 74)).drew.heap[w1.heap.size]? = some (.cells #[.string X, .int .i64 x, .bool false, .int .i64 c, o] 74) := (MapKept.heap_alloc w1 _).1
  subst hX ho
  refine ⟨?_, ?_, ?_, ?_, ?_, fun i => ?_, ?_⟩
  · simp only [World.cell?, hb]; rfl
  · simp only [World.cell?, hb]; rfl
  · simp only [World.cell?, hb]; rfl
  · simp only [World.cell?, hb]; rfl
  · simp only [World.cell?, hb]; rfl
  · simp only [World.frozen?, hb]; rfl
  · exact (Array.getElem?_eq_some_iff.1 hb).1
set_option maxRecDepth 20000 in
set_option maxHeartbeats 8000000 in
theorem padd_ok {w : World} {p : Nat} {T : List Nat} {D : Di} (h : Pd9 w p T D) (s : List UInt8) (x : Int) (h1s : 1 ≤ s.length) (hs : s.length ≤ 31) (hl : D.W.length < 2000) :
    Calls Try.prog 22 #[PtD p, .string (str s), .int .i64 x] w (PPlays p T (.int .i64 0) { D with W := D.W ++ [⟨s, x, false, D.c⟩] } w) := by
  have K0 := Lib.hid (none_calls h)
  obtain ⟨v, b, u, Z, hv, rfl⟩ := h
  have HV := Lib.hid hv
  obtain ⟨A, cap, rfl, _⟩ := rowD_open hv.body.rv
  have hlen : D.W.length = Z.length := by rw [hv.eW]; simp
  have KC := Lib.hid (sclone_calls s (by omega) w)
  have h0 := hv.c0
  have hsz := str_size s
  obtain ⟨n, hn⟩ : ∃ n, n = Z.length := ⟨_, rfl⟩
  obtain ⟨X, hX⟩ : ∃ X, X = str s := ⟨_, rfl⟩
  obtain ⟨c, hc⟩ : ∃ c, c = D.c := ⟨_, rfl⟩
  rw [← hX] at hsz KC ⊢
  rw [← hn] at h0
  have hze : X.toList.isEmpty = false := by
    rw [ByteArray.toList_eq, List.isEmpty_eq_false_iff]
    intro e
    have h3 : X.data.toList.length = s.length := by rw [Array.length_toList]; exact hsz
    rw [e] at h3
    have h3 : 0 = s.length := h3
    omega
  have h2I : ¬ (31 : Int) < (X.size : Int) := by omega
  have h3I : ¬ (2000 : Int) ≤ (n : Int) := by omega
  have HNX := Lib.hid (And.intro hn (And.intro hX (And.intro hc (And.intro hs (show Z.length < 2000 by omega)))))
  obtain ⟨o, ho⟩ : ∃ o, o = ptO (headZ Z c) := ⟨_, rfl⟩
  have HO := Lib.hid ho
  have hoo : o = .pointer none ∨ ∃ q, o = PtW q := by
    rw [ho]
    cases headZ Z c with
    | none => exact Or.inl rfl
    | some q => exact Or.inr ⟨q, rfl⟩
  rw [← hc]
  clear hv h1s hs hsz hn hX hc hlen hl ho
  unfold PPlays
  obtain ⟨OV, hOV⟩ : ∃ OV : Value, OV = o := ⟨_, rfl⟩
  have HOV := Lib.hid hOV
  clear hOV
  rcases hoo with rfl | ⟨q0, rfl⟩
  all_goals
    go_enter Try.func22, Try.ntmps22
    go_wp2_with fail
    refine (K0.out).mono ?_
    rintro e u1 ⟨rfl, rfl⟩
    go_wp2_with fail
    refine (KC.out).mono ?_
    rintro e w1 ⟨rfl, m1⟩
    have M1 := Lib.hid m1
    have hv1 := HV.out.mod m1 (by simp)
    have k0 := hv1.c0
    have k1 := hv1.c1
    have k4 := hv1.c4
    have lk := (hv1.mod (Mod.refl [] w1).drew (by simp)).body.mp.look (P := Try.prog) Try.underlying66 Try.underlying3 (Try.zeroWord w1.drew) c
    rw [← HO.out] at lk
    rw [← HNX.out.1] at k0
    rw [← HNX.out.2.2.1] at k4
    clear m1 hv1 h0
    go_upto_region 10 with fail
    go_region
    all_goals
      have WO := Lib.hid (word_new w1 X x c OV s HNX.out.2.1 (headZ Z c) (by rw [HOV.out]; exact HO.out))
      have M2 := Lib.hid ((M1.out.alloc (.cells #[.string X, .int .i64 x, .bool false, .int .i64 c, OV] 74)).drew)
      have HQ := Lib.hid (And.intro M1.out.size (show w1.heap.size < (w1.alloc (.cells #[.string X, .int .i64 x, .bool false, .int .i64 c, OV] 74)).drew.heap.size from WO.out.lt))
      clear k0 k1 k4 lk
      generalize hg : (w1.alloc (.cells #[.string X, .int .i64 x, .bool false, .int .i64 c, OV] 74)).drew = W2 at WO M2 HQ
      rw [HOV.out] at hg
      rw [hg]
      clear hg
      generalize w1.heap.size = q at WO M2 HQ ⊢
      have hv2 := HV.out.mod M2.out (by simp)
      have hv3 := hv2.mod ((Mod.refl [] W2).alloc (.cells #[PtW q] 71)) (by simp)
      obtain ⟨A2, n2, c2, w4, ea, e2, e3, e4⟩ := run_addP hv3.body.rv (Nat.le_of_lt HNX.out.2.2.2.2) q ⟨W2.heap.size, 0, none⟩ 1 (by rw [WideShapes.add_plain, Nat.zero_add, World.cell?_alloc_new]; rfl) 67
      rw [← HNX.out.1] at ea
      obtain ⟨npb, nvp, nvb⟩ := hv3.pbv
      have hp4 : p ∉ (Value.slice A Z.length cap).ownBlock.toList := fun hx => nvp (by simpa using hx)
      have hb4 : b ∉ (Value.slice A Z.length cap).ownBlock.toList := fun hx => nvb (by simpa using hx)
      have k0 := hv2.c0
      rw [← HNX.out.1] at k0
      have k04 := e3.cell (x := ⟨p, 0, none⟩) hp4 hv3.c0
      rw [← HNX.out.1] at k04
      have kf4 := (e3.frozen (x := ⟨p, 0, none⟩) hp4 hv3.lp).trans (hv3.f 0)
      have k1 : (w4.setCell ⟨p, 0, none⟩ (.slice A2 n2 c2)).cell? ⟨p, 1, none⟩ = some (.map (some b)) := by
        rw [World.cell?_setCell_other (h := by simp)]
        exact e3.cell hp4 hv3.c1
      have hqn : q ∉ (Value.slice A Z.length cap).ownBlock.toList := fun hx => by
        have h1 := (HV.out.body.rv.lt q (by simpa using hx)).2
        have := HQ.out.1
        omega
      have hqp : p ≠ q := fun e => by have := HV.out.lp; have := HQ.out.1; omega
      have k3 : (w4.setCell ⟨p, 0, none⟩ (.slice A2 n2 c2)).cell? ⟨q, 3, none⟩ = some (.int .i64 c) := by
        rw [World.cell?_setCell_other (h := by intro e; injection e with e; exact hqp e)]
        exact e3.cell hqn ((WO.out.mod ((Mod.refl [] W2).alloc (.cells #[PtW q] 71)) (by simp)).c3)
      have m5 : Mod [p] w4 (w4.setCell ⟨p, 0, none⟩ (.slice A2 n2 c2)).drew := ((Mod.refl [p] w4).set (x := ⟨p, 0, none⟩) (Or.inl (by simp)) _).drew
      have mp4 := (hv3.body.mp.mod e3 hb4).mod m5 (by simpa using fun e : b = p => npb e.symm)
      obtain ⟨w6, eb, mp6, mF⟩ := mp4.put (P := Try.prog) Try.underlying66 Try.underlying3 c q
      have HE := Lib.hid (add_end HV.out M2.out HQ.out.1 HQ.out.2 WO.out e2 e3 e4 mp6 mF HNX.out.2.2.2.1 HNX.out.2.2.2.2)
      clear hv2 hv3 e2 e3 e4 npb nvp nvb hp4 hb4 hqn hqp m5 mp4 mp6 mF
      go_upto_region 12 with fail
      go_region
      all_goals
        go_wp2_with fail
        go_ret
        have he := HE.out.1
        rw [← HNX.out.2.2.1] at he
        exact ⟨rfl, _, ⟨_, _, _, _, he, rfl⟩, HE.out.2⟩
end Go.Proofs.Ytldnpppbnakcoaa
