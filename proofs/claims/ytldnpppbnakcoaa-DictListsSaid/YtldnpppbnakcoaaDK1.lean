/- Layer 9: what DictBack needs: two dictionaries side by side, lists made and gone. No condition. -/
import Derived.Test.YtldnpppbnakcoaaDMany
import Derived.Test.YtldnpppbnakcoaaDO1
namespace Go.Proofs.Ytldnpppbnakcoaa
open Go.RowKit
set_option linter.unusedVariables false

/-- p is the dictionary D, q is E; both were made since w0, apart from each other and from U. -/
def Pq (w0 w : World) (p q : Nat) (U : List Nat) (D E : Di) : Prop := Many 2 w0 w (two p q) (two D E) U
theorem two_1 {α : Type} (a b c : α) : ∀ j, j < 2 → updD (two a b) 1 c j = two a c j := by
  intro j hj
  unfold updD two
  rcases (show j = 0 ∨ j = 1 by omega) with rfl | rfl <;> simp
theorem Many.ext {n : Nat} {w0 w : World} {P P' : Nat → Nat} {D D' : Nat → Di} {U : List Nat} (h : Many n w0 w P D U) (hP : ∀ i, i < n → P i = P' i) (hD : ∀ i, i < n → D i = D' i) : Many n w0 w P' D' U := by
  obtain ⟨T, h1, h2⟩ := h
  exact ⟨T, fun i hi => by rw [← hP i hi, ← hD i hi]; exact h1 i hi, h2⟩
theorem Pq.m {w0 w : World} {p q : Nat} {U : List Nat} {D E : Di} (h : Pq w0 w p q U D E) : Mod [] w0 w := Many.m h
theorem Pq.far {w0 w w' : World} {p q : Nat} {U : List Nat} {D E : Di} (h : Pq w0 w p q U D E) (m : Mod [] w w') : Pq w0 w' p q U D E := Many.far h m
theorem Pq.ofP {w0 w : World} {p q : Nat} {U : List Nat} {D E D' : Di} {r : Value} {f : Nat} {xs : Array Value} (h : Pq w0 w p q U D E) (k : ∀ T, Pd9 w p T D → Calls Try.prog f xs w (PPlays p T r D' w)) :
    Calls Try.prog f xs w fun e w' => e = .returned r ∧ Pq w0 w' p q U D' E ∧ Keep U w w' :=
  (many_of (i := 0) h (by omega) k).mono fun e w' ⟨e1, h1, h2⟩ => ⟨e1, by rw [two_0] at h1; exact h1, h2⟩
theorem Pq.ofQ {w0 w : World} {p q : Nat} {U : List Nat} {D E E' : Di} {r : Value} {f : Nat} {xs : Array Value} (h : Pq w0 w p q U D E) (k : ∀ T, Pd9 w q T E → Calls Try.prog f xs w (PPlays q T r E' w)) :
    Calls Try.prog f xs w fun e w' => e = .returned r ∧ Pq w0 w' p q U D E' ∧ Keep U w w' :=
  (many_of (i := 1) h (by omega) k).mono fun e w' ⟨e1, h1, h2⟩ => ⟨e1, Many.ext h1 (fun _ _ => rfl) (two_1 D E E'), h2⟩
theorem Pq.tellP {w0 w : World} {p q : Nat} {U : List Nat} {D E : Di} {r : Value} {f : Nat} {xs : Array Value} (h : Pq w0 w p q U D E) (k : ∀ T, Pd9 w p T D → Calls Try.prog f xs w (DTells r w)) :
    Calls Try.prog f xs w fun e w' => e = .returned r ∧ Pq w0 w' p q U D E ∧ Mod [] w w' := many_tells (i := 0) h (by omega) k
theorem Pq.tellQ {w0 w : World} {p q : Nat} {U : List Nat} {D E : Di} {r : Value} {f : Nat} {xs : Array Value} (h : Pq w0 w p q U D E) (k : ∀ T, Pd9 w q T E → Calls Try.prog f xs w (DTells r w)) :
    Calls Try.prog f xs w fun e w' => e = .returned r ∧ Pq w0 w' p q U D E ∧ Mod [] w w' := many_tells (i := 1) h (by omega) k
theorem Pq.namesP {w0 w : World} {p q : Nat} {U : List Nat} {D E : Di} (h : Pq w0 w p q U D E) (l : Int) (X : List ByteArray) (hX : namesW D.W l = X) :
    Calls Try.prog 20 #[PtD p, .int .i64 l] w fun e w' => ∃ A cap, e = .returned (.slice A X.length cap) ∧ TxAt w' A X ∧ Pq w0 w' p q U D E ∧ Mod [] w w' := by
  subst hX
  exact many_names (i := 0) h (by omega) l
theorem Pq.namesQ {w0 w : World} {p q : Nat} {U : List Nat} {D E : Di} (h : Pq w0 w p q U D E) (l : Int) (X : List ByteArray) (hX : namesW E.W l = X) :
    Calls Try.prog 20 #[PtD q, .int .i64 l] w fun e w' => ∃ A cap, e = .returned (.slice A X.length cap) ∧ TxAt w' A X ∧ Pq w0 w' p q U D E ∧ Mod [] w w' := by
  subst hX
  exact many_names (i := 1) h (by omega) l
theorem Pq.orderP {w0 w : World} {p q : Nat} {U : List Nat} {D E : Di} (h : Pq w0 w p q U D E) (Y : List Int) (hY : D.O = Y) :
    Calls Try.prog 16 #[PtD p] w fun e w' => ∃ A cap, e = .returned (.slice A Y.length cap) ∧ Ir w' w.heap.size (.slice A Y.length cap) Y ∧ IntsAt w' A Y ∧ (A = none → cap = 0) ∧ Pq w0 w' p q U D E ∧ Mod [] w w' := by
  subst hY
  exact many_order (i := 0) h (by omega)
theorem Pq.new2 (w : World) : Calls Try.prog 10 #[] w fun e w' => ∃ p, e = .returned (PtD p) ∧ Many 1 w w' (updD (fun _ => 0) 0 p) (updD (fun _ => one []) 0 (one [])) [] ∧ Mod [] w w' :=
  (many_new (Many.zero w (fun _ => 0) (fun _ => one []))).mono fun e w' h => h
theorem Pq.new3 {w0 w : World} {p : Nat} (h : Many 1 w0 w (updD (fun _ => 0) 0 p) (updD (fun _ => one []) 0 (one [])) []) : Calls Try.prog 10 #[] w fun e w' => ∃ q, e = .returned (PtD q) ∧ Pq w0 w' p q [] (one []) (one []) :=
  (many_new h).mono fun e w' ⟨q, e1, h1, _⟩ => ⟨q, e1, Many.ext h1 (fun i hi => by unfold updD two; rcases (show i = 0 ∨ i = 1 by omega) with rfl | rfl <;> simp) (fun i hi => by unfold updD two; rcases (show i = 0 ∨ i = 1 by omega) with rfl | rfl <;> simp)⟩
/-- How D may stand once lists and words were added to W. -/
structure Grown9 (W V : List We) (k : Nat) (R : List Int) (c : Int) : Prop where
  w1 : ∀ a ∈ W, a.l = 1
  k1 : 1 ≤ k
  k8 : k ≤ 8
  r2 : ∀ r ∈ R, 2 ≤ r ∧ r ≤ (k : Int)
  rl : R.length ≤ 7
  c1 : 1 ≤ c ∧ c ≤ (k : Int)
def grD (W V : List We) (k : Nat) (R : List Int) (c : Int) : Di := ⟨W ++ V, k, 1 :: R, c⟩
theorem Grown9.start {W : List We} (h : ∀ a ∈ W, a.l = 1) : Grown9 W [] 1 [] 1 := ⟨h, by omega, by omega, by simp, by simp, by omega⟩
theorem grD_one (W : List We) : grD W [] 1 [] 1 = one W := by simp [grD, one]
theorem Grown9.list {W V : List We} {k : Nat} {R : List Int} {c : Int} (h : Grown9 W V k R c) (hk : k < 8) : Grown9 W V (k + 1) (R.take 6 ++ [((k + 1 : Nat) : Int)]) ((k + 1 : Nat) : Int) :=
  ⟨h.w1, by omega, by omega, fun r hr => (List.mem_append.1 hr).elim (fun hr => by have := h.r2 r (List.mem_of_mem_take hr); omega) fun hr => by rw [List.mem_singleton.1 hr]; have := h.k1; omega, by simp; omega, by omega⟩
theorem take_cons7 (R : List Int) : (1 :: R).take 7 = 1 :: R.take 6 := rfl
theorem filter_R {k : Nat} {R : List Int} (h : ∀ r ∈ R, 2 ≤ r ∧ r ≤ (k : Int)) : (1 :: R).filter (inK 1) = [1] := by
  rw [List.filter_cons, if_pos (by decide)]
  rw [List.filter_eq_nil_iff.2]
  intro a ha
  have := h a ha
  simp [inK]
  omega
theorem Grown9.back {W V : List We} {k : Nat} {R : List Int} {c : Int} (h : Grown9 W V k R c) : backR (grD W V k R c) (W.length : Int) 1 = (0, one W) := by
  unfold backR grD one
  have hm : (⟨W ++ V, k, 1 :: R, c⟩ : Di).mayBack (W.length : Int) 1 = true := by
    unfold Di.mayBack
    rw [Int.toNat_natCast, List.take_left, Bool.and_eq_true]
    refine ⟨decide_eq_true ⟨by omega, by omega, by simp; omega, by have := h.k1; show (1 : Int) ≤ (k : Int); omega⟩, ?_⟩
    rw [List.all_eq_true]
    intro a ha
    rw [h.w1 a ha]
    rfl
  rw [if_pos hm, Int.toNat_natCast, List.take_left]
  show (0, (⟨W, (1 : Int).toNat, (1 :: R).filter (inK 1), if inK 1 c = true then c else 1⟩ : Di)) = _
  rw [filter_R h.r2]
  have hc : (if inK 1 c = true then c else 1) = 1 := by
    unfold inK
    by_cases e : 1 ≤ c ∧ c ≤ 1
    · rw [if_pos (decide_eq_true e)]; omega
    · rw [if_neg (by rw [decide_eq_false e]; decide)]
  rw [hc]
  rfl
theorem addR_gr (W V : List We) (k : Nat) (R : List Int) (c : Int) (s : List UInt8) (x : Int) : ∃ V', (addR (grD W V k R c) s x).2 = grD W V' k R c ∧ V'.length ≤ V.length + 1 := by
  unfold addR grD
  by_cases h1 : s.length = 0
  · exact ⟨V, by rw [if_pos h1], by omega⟩
  · by_cases h2 : 31 < s.length
    · exact ⟨V, by rw [if_neg h1, if_pos h2], by omega⟩
    · by_cases h3 : 2000 ≤ (W ++ V).length
      · exact ⟨V, by rw [if_neg h1, if_neg h2, if_pos h3], by omega⟩
      · refine ⟨V ++ [⟨s, x, false, c⟩], ?_, by simp⟩
        rw [if_neg h1, if_neg h2, if_neg h3]
        simp
theorem Grown9.any {W V V' : List We} {k : Nat} {R : List Int} {c : Int} (h : Grown9 W V k R c) : Grown9 W V' k R c := ⟨h.w1, h.k1, h.k8, h.r2, h.rl, h.c1⟩
theorem Grown9.knows {W V : List We} {k : Nat} {R : List Int} {c : Int} (h : Grown9 W V k R c) (c' : Int) (O : List Int) : (Di.mk (W ++ V) k O c').knows (1 :: R) = true := Di.knows_yes fun t ht => by
  have := h.k1
  cases t with
  | zero => unfold Di.known; simp; omega
  | succ t =>
    have := h.r2 _ (List.getElem_mem (show t < R.length by simpa using ht))
    unfold Di.known
    simp
    omega
theorem names_two {W : List We} (h : ∀ a ∈ W, a.l = 1) : namesW W 2 = [] := by
  unfold namesW
  rw [List.filter_eq_nil_iff.2 fun a ha => by simp [h a (by simpa using ha)]]
  rfl
theorem backR_more (W : List We) (k : Nat) (O : List Int) (c : Int) : backR ⟨W, k, O, c⟩ ((W.length : Int) + 1) 1 = (1, ⟨W, k, O, c⟩) := mayBack_bad fun h => by have := h.2.2.1; simp at this; omega
theorem backR_zero (W : List We) (k : Nat) (O : List Int) (c : Int) : backR ⟨W, k, O, c⟩ 0 0 = (1, ⟨W, k, O, c⟩) := mayBack_bad fun h => by have := h.2.1; omega
/-- Two dictionaries and a mark. -/
structure Bk9 (w1 w : World) (p q bm : Nat) (m : Int) (D E : Di) : Prop where
  pq : Pq w1 w p q [bm] D E
  c0 : w.cell? ⟨bm, 0, none⟩ = some (.int .i64 m)
  c1 : w.cell? ⟨bm, 1, none⟩ = some (.int .i64 1)
theorem Bk9.far {w1 w w' : World} {p q bm : Nat} {m : Int} {D E : Di} (h : Bk9 w1 w p q bm m D E) (k : Mod [] w w') : Bk9 w1 w' p q bm m D E := ⟨h.pq.far k, k.cell (by simp) h.c0, k.cell (by simp) h.c1⟩
theorem Bk9.turn {w1 w w' : World} {p q bm : Nat} {m : Int} {D E D' E' : Di} (h : Bk9 w1 w p q bm m D E) (d : Pq w1 w' p q [bm] D' E') (k : Keep [bm] w w') : Bk9 w1 w' p q bm m D' E' := ⟨d, k.cell (by simp) h.c0, k.cell (by simp) h.c1⟩
theorem Bk9.ofP {w0 w : World} {p q bm : Nat} {m : Int} {D E D' : Di} {r : Value} {f : Nat} {xs : Array Value} (h : Bk9 w0 w p q bm m D E) (k : ∀ T, Pd9 w p T D → Calls Try.prog f xs w (PPlays p T r D' w)) :
    Calls Try.prog f xs w fun e w' => e = .returned r ∧ Bk9 w0 w' p q bm m D' E := (h.pq.ofP k).mono fun e w' ⟨e1, h1, h2⟩ => ⟨e1, h.turn h1 h2⟩
theorem Bk9.tellP {w0 w : World} {p q bm : Nat} {m : Int} {D E : Di} {r : Value} {f : Nat} {xs : Array Value} (h : Bk9 w0 w p q bm m D E) (k : ∀ T, Pd9 w p T D → Calls Try.prog f xs w (DTells r w)) :
    Calls Try.prog f xs w fun e w' => e = .returned r ∧ Bk9 w0 w' p q bm m D E ∧ Mod [] w w' := (h.pq.tellP k).mono fun e w' ⟨e1, _, h2⟩ => ⟨e1, h.far h2, h2⟩
theorem Bk9.tellQ {w0 w : World} {p q bm : Nat} {m : Int} {D E : Di} {r : Value} {f : Nat} {xs : Array Value} (h : Bk9 w0 w p q bm m D E) (k : ∀ T, Pd9 w q T E → Calls Try.prog f xs w (DTells r w)) :
    Calls Try.prog f xs w fun e w' => e = .returned r ∧ Bk9 w0 w' p q bm m D E ∧ Mod [] w w' := (h.pq.tellQ k).mono fun e w' ⟨e1, _, h2⟩ => ⟨e1, h.far h2, h2⟩
theorem Bk9.list_yes {w0 w : World} {p q bm : Nat} {m : Int} {E : Di} {W V : List We} {k : Nat} {R : List Int} {c : Int} (h : Bk9 w0 w p q bm m (grD W V k R c) E) (hk : k < 8) :
    Calls Try.prog 26 #[PtD p] w fun e w' => e = .returned (.tuple #[.int .i64 ((k + 1 : Nat) : Int), .int .i64 0]) ∧ Bk9 w0 w' p q bm m ⟨W ++ V, k + 1, 1 :: R, c⟩ E :=
  h.ofP fun T g => by
    have := plist_calls g
    rw [if_pos (show (grD W V k R c).k < 8 from hk), if_pos (show (grD W V k R c).k < 8 from hk)] at this
    exact this
theorem Bk9.list_no {w0 w : World} {p q bm : Nat} {m : Int} {E : Di} {W V : List We} {k : Nat} {R : List Int} {c : Int} (h : Bk9 w0 w p q bm m (grD W V k R c) E) (hk : ¬ k < 8) :
    Calls Try.prog 26 #[PtD p] w fun e w' => e = .returned (.tuple #[.int .i64 0, .int .i64 (-49)]) ∧ Bk9 w0 w' p q bm m (grD W V k R c) E :=
  h.ofP fun T g => by
    have := plist_calls g
    rw [if_neg (show ¬ (grD W V k R c).k < 8 from hk), if_neg (show ¬ (grD W V k R c).k < 8 from hk)] at this
    exact this
theorem Bk9.setcur_yes {w0 w : World} {p q bm : Nat} {m : Int} {D E : Di} (h : Bk9 w0 w p q bm m D E) (l : Int) (hl : D.known l = true) :
    Calls Try.prog 27 #[PtD p, .int .i64 l] w fun e w' => e = .returned (.int .i64 0) ∧ Bk9 w0 w' p q bm m { D with c := l } E :=
  h.ofP fun T g => by
    have := psetcur_calls g l
    rw [hl] at this
    exact this
theorem Bk9.setord_yes {w0 w : World} {p q bm : Nat} {m : Int} {D E : Di} (h : Bk9 w0 w p q bm m D E) {A : Option Addr} {n cap : Nat} {Y : List Int} (hY : IntsAt w A Y) (hn : n = Y.length) (hA : A = none → cap = 0) (h8 : n ≤ 8) (hk : D.knows Y = true) :
    Calls Try.prog 28 #[PtD p, .slice A n cap] w fun e w' => e = .returned (.int .i64 0) ∧ Bk9 w0 w' p q bm m { D with O := Y } E :=
  h.ofP fun T g => by
    have := psetord_calls g hY hn hA (by omega)
    rw [show ordR D Y = (0, { D with O := Y }) by unfold ordR; rw [if_pos ⟨by omega, hk⟩]] at this
    exact this
theorem Bk9.order {w0 w : World} {p q bm : Nat} {m : Int} {D E : Di} (h : Bk9 w0 w p q bm m D E) (Y : List Int) (hY : D.O = Y) :
    Calls Try.prog 16 #[PtD p] w fun e w' => ∃ A cap, e = .returned (.slice A Y.length cap) ∧ Ir w' w.heap.size (.slice A Y.length cap) Y ∧ IntsAt w' A Y ∧ (A = none → cap = 0) ∧ Bk9 w0 w' p q bm m D E ∧ Mod [] w w' :=
  (h.pq.orderP Y hY).mono fun e w' ⟨A, cap, e1, h1, h2, h3, _, h5⟩ => ⟨A, cap, e1, h1, h2, h3, h.far h5, h5⟩
theorem Bk9.namesP {w0 w : World} {p q bm : Nat} {m : Int} {D E : Di} (h : Bk9 w0 w p q bm m D E) (l : Int) (X : List ByteArray) (hX : namesW D.W l = X) :
    Calls Try.prog 20 #[PtD p, .int .i64 l] w fun e w' => ∃ A cap, e = .returned (.slice A X.length cap) ∧ TxAt w' A X ∧ Bk9 w0 w' p q bm m D E ∧ Mod [] w w' :=
  (h.pq.namesP l X hX).mono fun e w' ⟨A, cap, e1, h1, _, h3⟩ => ⟨A, cap, e1, h1, h.far h3, h3⟩
theorem Bk9.namesQ {w0 w : World} {p q bm : Nat} {m : Int} {D E : Di} (h : Bk9 w0 w p q bm m D E) (l : Int) (X : List ByteArray) (hX : namesW E.W l = X) :
    Calls Try.prog 20 #[PtD q, .int .i64 l] w fun e w' => ∃ A cap, e = .returned (.slice A X.length cap) ∧ TxAt w' A X ∧ Bk9 w0 w' p q bm m D E ∧ Mod [] w w' :=
  (h.pq.namesQ l X hX).mono fun e w' ⟨A, cap, e1, h1, _, h3⟩ => ⟨A, cap, e1, h1, h.far h3, h3⟩
/-- The first numbers of a row. -/
theorem Ir.upto {w : World} {base : Nat} {A : Option Addr} {n cap : Nat} {Y : List Int} (h : Ir w base (.slice A n cap) Y) (k : Nat) (hk : k ≤ n) (h1 : 1 ≤ n) : Ir w base (.slice A k cap) (Y.take k) ∧ k ≤ cap := by
  unfold Ir at h ⊢
  have hl : Y.length = n := by
    rcases h.2 with ⟨e, h0⟩ | ⟨g, cp, cur, e, _⟩
    · injection e with _ e2 _; omega
    · injection e with _ e2 _; omega
  rcases h.2 with ⟨e, h0⟩ | ⟨g, cp, cur, e, h3, h4, h5, h6, h7, h8⟩
  · omega
  · injection e with e1 e2 e3
    subst e1 e3
    have hlt : (Y.take k).length = k := by rw [List.length_take]; omega
    rw [hlt]
    refine ⟨⟨by simp [intsV]; omega, Or.inr ⟨g, cap, cur, rfl, h3, h4, by omega, h6, h7, ?_⟩⟩, by omega⟩
    have e : intsV (Y.take k) = (intsV Y).take (k * 1) := by simp [intsV, List.map_take]
    rw [e, ← h8, List.take_take, Nat.min_eq_left (by omega)]
theorem Bk9.order1 {w0 w : World} {p q bm : Nat} {m : Int} {W : List We} {E : Di} (h : Bk9 w0 w p q bm m (one W) E) :
    Calls Try.prog 16 #[PtD p] w fun e w' => ∃ A cap, e = .returned (.slice A 1 cap) ∧ IntsAt w' A [1] ∧ Bk9 w0 w' p q bm m (one W) E ∧ Mod [] w w' :=
  (h.order [1] rfl).mono fun e w' ⟨A, cap, e1, _, h2, _, h4, h5⟩ => ⟨A, cap, e1, h2, h4, h5⟩
theorem Bk9.names2 {w0 w : World} {p q bm : Nat} {m : Int} {W : List We} {E : Di} (h : Bk9 w0 w p q bm m (one W) E) (hW : ∀ a ∈ W, a.l = 1) :
    Calls Try.prog 20 #[PtD p, .int .i64 2] w fun e w' => ∃ A cap, e = .returned (.slice A 0 cap) ∧ Bk9 w0 w' p q bm m (one W) E :=
  (h.namesP 2 [] (names_two hW)).mono fun e w' ⟨A, cap, e1, _, h2, _⟩ => ⟨A, cap, e1, h2⟩
theorem Bk9.names1P {w0 w : World} {p q bm : Nat} {m : Int} {W : List We} {E : Di} {X : List ByteArray} {n : Nat} (h : Bk9 w0 w p q bm m (one W) E) (hX : X = namesW W 1) (hn : n = X.length) :
    Calls Try.prog 20 #[PtD p, .int .i64 1] w fun e w' => ∃ A cap, e = .returned (.slice A n cap) ∧ TxAt w' A X ∧ Bk9 w0 w' p q bm m (one W) E ∧ Mod [] w w' := by
  subst hn
  exact h.namesP 1 X hX.symm
theorem Bk9.names1Q {w0 w : World} {p q bm : Nat} {m : Int} {W : List We} {D : Di} {X : List ByteArray} {n : Nat} (h : Bk9 w0 w p q bm m D (one W)) (hX : X = namesW W 1) (hn : n = X.length) :
    Calls Try.prog 20 #[PtD q, .int .i64 1] w fun e w' => ∃ A cap, e = .returned (.slice A n cap) ∧ TxAt w' A X ∧ Bk9 w0 w' p q bm m D (one W) ∧ Mod [] w w' := by
  subst hn
  exact h.namesQ 1 X hX.symm
theorem ints_one {w : World} {A B : Option Addr} {c d : Nat} (hA : IntsAt w A [1]) (hB : IntsAt w B [1]) :
    Calls Try.prog 15 #[.slice A 1 c, .slice B 1 d] w fun e w' => e = .returned (.bool true) ∧ Mod [] w w' := ints_same hA hB rfl rfl (by omega)
end Go.Proofs.Ytldnpppbnakcoaa
