/- Layer 12: each word is found by its name, and no other (the walk of TableNames). Condition: numbers of their kinds, texts of at most 9223372036854775807 bytes. -/
import Derived.Test.YtgmdagjaigbajaaTQ
import Derived.Deep.RegionHeld3
namespace Go.Proofs.Ytgmdagjaigbajaa
open Go.RowKit Go.ChangeShapes Go.WideShapes
set_option linter.unusedVariables false

/-- Ten cells: those of two words. -/
def Ten (p r : Nat) (N : ByteArray) (xk xn : Int) (xa xb : Bool) (V : World) : Prop := V.cell? ⟨p, 0, none⟩ = some (.string N) ∧ V.cell? ⟨p, 1, none⟩ = some (.int .i64 xk) ∧ V.cell? ⟨p, 2, none⟩ = some (.int .i64 xn) ∧ V.cell? ⟨p, 3, none⟩ = some (.bool xa) ∧ V.cell? ⟨p, 4, none⟩ = some (.bool xb) ∧ V.cell? ⟨r, 0, none⟩ = some (.string N) ∧ V.cell? ⟨r, 1, none⟩ = some (.int .i64 xk) ∧ V.cell? ⟨r, 2, none⟩ = some (.int .i64 xn) ∧ V.cell? ⟨r, 3, none⟩ = some (.bool xa) ∧ V.cell? ⟨r, 4, none⟩ = some (.bool xb)
theorem keep10 {p r : Nat} {N : ByteArray} {xk xn : Int} {xa xb : Bool} {V W : World} (h : Ten p r N xk xn xa xb V) (m : Mod [] V W) : Ten p r N xk xn xa xb W := by
  obtain ⟨a0, a1, a2, a3, a4, b0, b1, b2, b3, b4⟩ := h
  exact ⟨m.cell (by simp) a0, m.cell (by simp) a1, m.cell (by simp) a2, m.cell (by simp) a3, m.cell (by simp) a4, m.cell (by simp) b0, m.cell (by simp) b1, m.cell (by simp) b2, m.cell (by simp) b3, m.cell (by simp) b4⟩
theorem ten {p r : Nat} {N : ByteArray} {xk xn : Int} {xa xb : Bool} {V : World} (h : Bx5 V p (.string N) (.int .i64 xk) (.int .i64 xn) (.bool xa) (.bool xb)) (k : Bx5 V r (.string N) (.int .i64 xk) (.int .i64 xn) (.bool xa) (.bool xb)) : Ten p r N xk xn xa xb V.drew :=
  keep10 ⟨h.c0, h.c1, h.c2, h.c3, h.c4, k.c0, k.c1, k.c2, k.c3, k.c4⟩ (Mod.refl [] V).drew
/-- What is found lies in a block; nothing older than w3 turned. -/
def Fnd (w3 : World) (Sy : ByteArray) (yk yn : Int) (ya yb yo : Bool) (u v : Value) (wx : World) : Prop := ∃ r, u = .pointer (some ⟨r, 0, none⟩) ∧ v = .bool yo ∧ Bx5 wx r (.string Sy) (.int .i64 yk) (.int .i64 yn) (.bool ya) (.bool yb) ∧ Mod [] w3 wx
def put5 (w : World) (q : Nat) (v0 v1 v2 v3 v4 : Value) : World := ((((w.setCell ⟨q, 0, none⟩ v0).setCell ⟨q, 1, none⟩ v1).setCell ⟨q, 2, none⟩ v2).setCell ⟨q, 3, none⟩ v3).setCell ⟨q, 4, none⟩ v4
theorem Bx5.put {w : World} {q : Nat} {x0 x1 x2 x3 x4 : Value} (h : Bx5 w q x0 x1 x2 x3 x4) (v0 v1 v2 v3 v4 : Value) : Bx5 (put5 w q v0 v1 v2 v3 v4) q v0 v1 v2 v3 v4 := by
  have o : ∀ (V : World) (i j : Nat) (v : Value), i ≠ j → (V.setCell ⟨q, i, none⟩ v).cell? ⟨q, j, none⟩ = V.cell? ⟨q, j, none⟩ := fun V i j v hij => World.cell?_setCell_other _ _ _ _ (by first | (simp; done) | (simp; omega))
  have s : ∀ (V : World) (i : Nat) (v u : Value), V.cell? ⟨q, i, none⟩ = some u → (V.setCell ⟨q, i, none⟩ v).cell? ⟨q, i, none⟩ = some v := fun V i v u hu => World.cell?_setCell_same _ _ _ (h := hu)
  unfold put5
  refine ⟨?_, ?_, ?_, ?_, ?_, fun i => ?_, ?_⟩
  · rw [o _ 4 0 _ (by decide), o _ 3 0 _ (by decide), o _ 2 0 _ (by decide), o _ 1 0 _ (by decide)]; exact s _ 0 _ _ h.c0
  · rw [o _ 4 1 _ (by decide), o _ 3 1 _ (by decide), o _ 2 1 _ (by decide)]; exact s _ 1 _ _ ((o _ 0 1 _ (by decide)).trans h.c1)
  · rw [o _ 4 2 _ (by decide), o _ 3 2 _ (by decide)]; exact s _ 2 _ _ ((o _ 1 2 _ (by decide)).trans ((o _ 0 2 _ (by decide)).trans h.c2))
  · rw [o _ 4 3 _ (by decide)]; exact s _ 3 _ _ ((o _ 2 3 _ (by decide)).trans ((o _ 1 3 _ (by decide)).trans ((o _ 0 3 _ (by decide)).trans h.c3)))
  · exact s _ 4 _ _ ((o _ 3 4 _ (by decide)).trans ((o _ 2 4 _ (by decide)).trans ((o _ 1 4 _ (by decide)).trans ((o _ 0 4 _ (by decide)).trans h.c4))))
  · rw [World.frozen?_setCell, World.frozen?_setCell, World.frozen?_setCell, World.frozen?_setCell, World.frozen?_setCell]; exact h.f i
  · have := h.lt
    simpa [World.setCell] using this
theorem put_mod {a w : World} {q : Nat} (hq : a.heap.size ≤ q) (h : Mod [] a w) (v0 v1 v2 v3 v4 : Value) : Mod [] a (put5 w q v0 v1 v2 v3 v4) :=
  ((((h.set (x := ⟨q, 0, none⟩) (Or.inr hq) v0).set (x := ⟨q, 1, none⟩) (Or.inr hq) v1).set (x := ⟨q, 2, none⟩) (Or.inr hq) v2).set (x := ⟨q, 3, none⟩) (Or.inr hq) v3).set (x := ⟨q, 4, none⟩) (Or.inr hq) v4
theorem fiV_some (x : En) : fiV (some x) = .tuple #[.agg #[.string (str x.s), .int .i64 x.k, .int .i64 (x.n : Int), .bool x.now, .bool x.only], .bool true] := rfl
set_option maxHeartbeats 4000000 in
set_option maxRecDepth 100000 in
theorem names_walk (w : World) (b : Int) (hb : (Lit.int .u16 b).wf = true) (g : Int) (hg : (Lit.int .u32 g).wf = true) (T : ByteArray) (hT : T.size ≤ 9223372036854775807) :
    Calls Try.prog 4 #[.int .u16 b, .int .u32 g, .string T] w fun e w' => e = .returned (.bool true) ∧ Mod [] w w' := by
  have H0 := Lib.hid (shown_calls w)
  have A1 := Lib.hid (fun W => all_calls W)
  have hb2 : 0 ≤ b ∧ b ≤ 65535 := bounds_u16 hb
  obtain ⟨m, hm⟩ := Int.eq_ofNat_of_zero_le (show 0 ≤ b % 180 by omega)
  have hm2 : b.tmod 180 = (m : Int) := by rw [Int.tmod_eq_emod_of_nonneg (by omega)]; exact hm
  have hm4 : m < 180 := by omega
  have hm5 : (m : Int) < 180 := by omega
  clear hb hm hg
  go_enter Try.func4, Try.ntmps4
  go_wp2_with fail
  refine (H0.out).mono ?_
  rintro e w1 ⟨rfl, m1⟩
  have M1 := Lib.hid m1
  clear m1
  go_wp2_with fail
  refine (A1.out _).mono ?_
  rintro e w2 ⟨v1, rfl, e1, m2⟩
  obtain ⟨B1, c1, rfl, t1⟩ := e1.at
  rw [tab_len]
  have M2 := Lib.hid (M1.out.trans m2)
  have T2 := Lib.hid t1
  have hmX : m < tab.length := by rw [tab_len]; exact hm4
  obtain ⟨d, rfl, g0, g1, g2, g3, g4⟩ := t1 m hmX
  have hown := own_all ⟨m, hm4⟩
  have hnam := names_all ⟨m, hm4⟩
  simp only at hown hnam
  generalize tab[m] = x at *
  obtain ⟨hx1, hx2, hx3, _, _, _⟩ := hown
  obtain ⟨hn1, hn2, hn3, hn4, hn5⟩ := hnam
  have hn5 := map_toT hn5
  obtain ⟨X, hX⟩ : ∃ X, X = x.s := ⟨_, rfl⟩
  obtain ⟨N, hN⟩ : ∃ N, N = str X := ⟨_, rfl⟩
  have hxs : ∀ (W : World), Calls Try.prog 12 #[.int .i64 x.k, .int .i64 (x.n : Int)] W fun e w' => e = .returned (.string N) ∧ Mod [] W w' := fun W => by
    have := name_calls x.k x.n (by unfold I64; rename_i h1 h2 h3; omega) W
    rw [hx1, ← hX, ← hN] at this
    exact this
  rw [← hX] at hn1 hn2 hn3 hn4 hn5
  rw [← hX, ← hN] at g0
  have FX : ∀ (Y : List UInt8), foldL Y = X → Y.length ≤ 31 → ∀ W, Calls Try.prog 8 #[.string (str Y)] W fun e w' => e = .returned (.tuple #[.agg #[.string N, .int .i64 x.k, .int .i64 (x.n : Int), .bool x.now, .bool x.only], .bool true]) ∧ Mod [] W w' := fun Y hY hl W => by
    have := find_calls Y (by omega) W
    rw [hY, hn5] at this
    rw [fiV_some, ← hX, ← hN] at this
    exact this
  obtain ⟨xk, hxk⟩ : ∃ y, y = x.k := ⟨_, rfl⟩
  obtain ⟨xn, hxn⟩ : ∃ y, y = x.n := ⟨_, rfl⟩
  obtain ⟨xa, hxa⟩ : ∃ y, y = x.now := ⟨_, rfl⟩
  obtain ⟨xb, hxb⟩ : ∃ y, y = x.only := ⟨_, rfl⟩
  rw [← hxk, ← hxn, ← hxa, ← hxb] at FX
  rw [← hxk] at g1 hxs
  rw [← hxn] at g2 hx2 hx3 hxs
  rw [← hxa] at g3
  rw [← hxb] at g4
  have b5 := Bx5.new w2 (.string N) (.int .i64 xk) (.int .i64 (xn : Int)) (.bool xa) (.bool xb) 24
  have m3 : Mod [] w2 (w2.alloc (.cells #[.string N, .int .i64 xk, .int .i64 (xn : Int), .bool xa, .bool xb] 24)) := (Mod.refl [] w2).alloc _
  have XS := Lib.hid hxs
  have FX := Lib.hid FX
  have HN := Lib.hid (And.intro hN (And.intro hn1 (And.intro hn2 hn3)))
  clear e1 t1 m2 hN hxk hxn hxa hxb hx1 hxs hn1 hn2 hn3 hn5 hX
  go_upto_region 6 with fail
  generalize w2.alloc (.cells #[.string N, .int .i64 xk, .int .i64 (xn : Int), .bool xa, .bool xb] 24) = w3 at *
  obtain ⟨p, hp⟩ : ∃ p, p = w2.heap.size := ⟨_, rfl⟩
  rw [← hp] at b5 ⊢
  have P3 := Lib.hid b5
  have M3 := Lib.hid m3
  clear hp g0 g1 g2 g3 g4 m3
  obtain ⟨g0, _, _, _, _, _, _⟩ := b5
  obtain ⟨cap, w4, hcv, hB, hM⟩ := bytes_new w3 X
  rw [← HN.out.1] at hcv
  obtain ⟨nl, hnl⟩ : ∃ n, n = X.length := ⟨_, rfl⟩
  rw [← hnl] at hcv hn4
  have HL := Lib.hid hnl
  obtain ⟨q, hq⟩ : ∃ q, q = w3.heap.size := ⟨_, rfl⟩
  have HQ := Lib.hid (show w3.heap.size ≤ q from Nat.le_of_eq hq.symm)
  rw [← hq] at hcv hB
  have B4 := Lib.hid hB
  have M4 := Lib.hid hM
  have hnlI : (nl : Int) ≤ 31 := by omega
  clear hnl hq hB hM
  go_wp2_with fail
  go_loopw [38] (fun y wr => ∃ (i : Nat) (P : List UInt8), y = .int .i64 (i : Int) ∧ i ≤ nl ∧ RowKit.Hid (P.length = i ∧ foldL P = X.take i ∧ Bs wr q (P ++ X.drop i) ∧ Mod [] w3 wr)) (fun y _ => nl - (intOf y).toNat)
  case atStart => exact ⟨0, [], rfl, by omega, Lib.hid ⟨rfl, rfl, by simpa using B4.out, M4.out⟩⟩
  case round =>
    clear hcv g0
    obtain ⟨i, P, rfl, hin, hi⟩ := hrel
    obtain ⟨h1, h2, h3, h4⟩ := hi.out
    by_cases hlt : i < nl
    · have hiI : (i : Int) < (nl : Int) := by omega
      have hiX : i < X.length := by rw [← HL.out]; exact hlt
      have i32 : decide ((i : Int) < 32) = true := decide_eq_true (by omega)
      have hXl : (P ++ X.drop i).length = X.length := by simp; omega
      have hc := h3.cell i (by omega)
      have hf := h3.free i (by omega)
      have hat := at_one hiX h1
      rw [List.getElem?_eq_getElem (by omega)] at hat
      rw [Option.some.inj hat] at hc
      have hfo := fold_own HN.out.2.2.1 i hiX
      have k1 := keep_one hiX h1
      have k2 := fold_one hiX h2 X[i] hfo
      have s1 := set_one hiX h1 (X[i] - 32)
      have s2 := h3.set i (X[i] - 32) (by omega)
      rw [s1] at s2
      rw [k1] at h3
      have hk : Mod [] w3 (wr.setCell ⟨q, i, none⟩ (.int .u8 ((X[i] - 32).toNat : Int))) := h4.set (x := ⟨q, i, none⟩) (Or.inr HQ.out) _
      have KEEP := Lib.hid (And.intro h1 (And.intro k2 (And.intro h3 h4)))
      have hgr : 97 ≤ X[i].toNat → X[i].toNat ≤ 122 → foldL (P ++ [X[i] - 32]) = X.take (i + 1) ∧ (X[i] - 32).toNat = X[i].toNat - 32 := fun a1 a2 => by
        obtain ⟨e1, e2⟩ := foldC_great a1 a2
        exact ⟨fold_one hiX h2 _ e1, e2⟩
      have TURN := Lib.hid (And.intro hgr (And.intro s2 hk))
      obtain ⟨c, hc2⟩ : ∃ c, c = X[i].toNat := ⟨_, rfl⟩
      have HC := Lib.hid hc2
      rw [← hc2] at hc
      have hcn : c < 256 := by rw [hc2]; exact X[i].toNat_lt
      clear hi h1 h2 h3 h4 hXl hat hfo k1 k2 s1 s2 hk hgr hc2
      go_upto_region 10 with fail
      go_wp2_with fail
      · go_roundw
        case rel =>
          have a1 : 97 ≤ X[i].toNat := by rw [← HC.out]; omega
          have a2 : X[i].toNat ≤ 122 := by rw [← HC.out]; omega
          obtain ⟨e1, e2⟩ := TURN.out.1 a1 a2
          have e3 : (((X[i] - 32).toNat : Nat) : Int) = (c : Int) - 32 := by rw [e2, ← HC.out]; omega
          have s2 := TURN.out.2.1
          have s3 := TURN.out.2.2
          rw [e3] at s2 s3
          exact ⟨i + 1, P ++ [X[i] - 32], by go_num, by omega, Lib.hid ⟨by rw [List.length_append, KEEP.out.1]; rfl, e1, s2, s3⟩⟩
        case measure => simp [intOf]; omega
      · go_roundw
        case rel =>
          have hx := KEEP.out
          exact ⟨i + 1, P ++ [X[i]], by go_num, by omega, Lib.hid ⟨by rw [List.length_append, hx.1]; rfl, hx.2.1, hx.2.2.1, hx.2.2.2⟩⟩
        case measure => simp [intOf]; omega
      · go_roundw
        case rel =>
          have hx := KEEP.out
          exact ⟨i + 1, P ++ [X[i]], by go_num, by omega, Lib.hid ⟨by rw [List.length_append, hx.1]; rfl, hx.2.1, hx.2.2.1, hx.2.2.2⟩⟩
        case measure => simp [intOf]; omega
      · go_roundw
        case rel =>
          have hx := KEEP.out
          exact ⟨i + 1, P ++ [X[i]], by go_num, by omega, Lib.hid ⟨by rw [List.length_append, hx.1]; rfl, hx.2.1, hx.2.2.1, hx.2.2.2⟩⟩
        case measure => simp [intOf]; omega
    · have hiI : ¬ (i : Int) < (nl : Int) := by omega
      have hiX : i = X.length := by have := HL.out; omega
      rw [hiX, List.take_of_length_le (Nat.le_refl _)] at h2
      rw [hiX, List.drop_length, List.append_nil] at h3
      have hPl : P.length = nl := by rw [h1, hiX, HL.out]
      have hcv2 := h3.conv nl cap hPl.symm
      have F1 := Lib.hid (FX.out P h2 (by omega) wr)
      have M5 := Lib.hid h4
      clear hi h1 h2 h3 h4 hiX hPl hlt
      generalize str P = Y at *
      go_wp2_with fail
      refine (F1.out).mono ?_
      rintro e w6 ⟨rfl, m6⟩
      have b6 := Bx5.new w6 (.string N) (.int .i64 xk) (.int .i64 (xn : Int)) (.bool xa) (.bool xb) 24
      have m7 : Mod [] w6 (w6.alloc (.cells #[.string N, .int .i64 xk, .int .i64 (xn : Int), .bool xa, .bool xb] 24)) := (Mod.refl [] w6).alloc _
      have M6 := Lib.hid ((M5.out.trans m6).trans m7)
      clear m6 m7 hcv2
      go_upto_region 14 with fail
      generalize w6.alloc (.cells #[.string N, .int .i64 xk, .int .i64 (xn : Int), .bool xa, .bool xb] 24) = w7 at *
      obtain ⟨r, hr⟩ : ∃ r, r = w6.heap.size := ⟨_, rfl⟩
      rw [← hr] at b6 ⊢
      clear hr
      have HS0 := Lib.hid (ten (P3.out.far M6.out) b6)
      have hNN : (N.toList == N.toList) = true := by rw [beq_iff_eq]
      have hNe : N.toList.isEmpty = false := by rw [HN.out.1]; exact str_ne HN.out.2.2.2
      have hNs : N.size = nl := by rw [HN.out.1, str_size]; exact HL.out.symm
      have d31 : decide ((31 : Int) < (nl : Int)) = false := decide_eq_false (by omega)
      clear b6
      refine wp_region_held_drew (S := (fun V => V.cell? ⟨p, 0, none⟩ = some (.string N) ∧ V.cell? ⟨p, 1, none⟩ = some (.int .i64 xk) ∧ V.cell? ⟨p, 2, none⟩ = some (.int .i64 (xn : Int)) ∧ V.cell? ⟨p, 3, none⟩ = some (.bool xa) ∧ V.cell? ⟨p, 4, none⟩ = some (.bool xb) ∧ V.cell? ⟨r, 0, none⟩ = some (.string N) ∧ V.cell? ⟨r, 1, none⟩ = some (.int .i64 xk) ∧ V.cell? ⟨r, 2, none⟩ = some (.int .i64 (xn : Int)) ∧ V.cell? ⟨r, 3, none⟩ = some (.bool xa) ∧ V.cell? ⟨r, 4, none⟩ = some (.bool xb))) (by kernel_rfl) ?_ (fun hHeld => ?_)
      · exact HS0.out
      (refine wpAnyH_take (S := (fun V => V.cell? ⟨p, 0, none⟩ = some (.string N) ∧ V.cell? ⟨p, 1, none⟩ = some (.int .i64 xk) ∧ V.cell? ⟨p, 2, none⟩ = some (.int .i64 (xn : Int)) ∧ V.cell? ⟨p, 3, none⟩ = some (.bool xa) ∧ V.cell? ⟨p, 4, none⟩ = some (.bool xb) ∧ V.cell? ⟨r, 0, none⟩ = some (.string N) ∧ V.cell? ⟨r, 1, none⟩ = some (.int .i64 xk) ∧ V.cell? ⟨r, 2, none⟩ = some (.int .i64 (xn : Int)) ∧ V.cell? ⟨r, 3, none⟩ = some (.bool xa) ∧ V.cell? ⟨r, 4, none⟩ = some (.bool xb))) (i := 0) (oi := ?_) (v := ?_) ?_ ?_ ?_ ?_ ?_ (Or.inl ⟨?_, ?_⟩) hHeld ?_; rotate_left 2; (· simp only [List.getElem?_toArray, List.getElem?_cons_zero] <;> rfl); (· kernel_rfl); (· kernel_rfl); (· kernel_rfl); (· exact fun _ _ _ h => h); (· rfl); (· intro wS hSw; (try dsimp only [] at hSw); go_simp; first | done | with_reducible rfl))
      try simp only [Act.put, List.setIfInBounds_toArray, List.set_cons_zero, List.set_cons_succ]
      (refine wpAnyH_take (S := (fun V => V.cell? ⟨p, 0, none⟩ = some (.string N) ∧ V.cell? ⟨p, 1, none⟩ = some (.int .i64 xk) ∧ V.cell? ⟨p, 2, none⟩ = some (.int .i64 (xn : Int)) ∧ V.cell? ⟨p, 3, none⟩ = some (.bool xa) ∧ V.cell? ⟨p, 4, none⟩ = some (.bool xb) ∧ V.cell? ⟨r, 0, none⟩ = some (.string N) ∧ V.cell? ⟨r, 1, none⟩ = some (.int .i64 xk) ∧ V.cell? ⟨r, 2, none⟩ = some (.int .i64 (xn : Int)) ∧ V.cell? ⟨r, 3, none⟩ = some (.bool xa) ∧ V.cell? ⟨r, 4, none⟩ = some (.bool xb))) (i := 1) (oi := ?_) (v := ?_) ?_ ?_ ?_ ?_ ?_ (Or.inl ⟨?_, ?_⟩) hHeld ?_; rotate_left 2; (· simp only [List.getElem?_toArray, List.getElem?_cons_succ, List.getElem?_cons_zero] <;> rfl); (· kernel_rfl); (· kernel_rfl); (· kernel_rfl); (· exact fun _ _ _ h => h); (· rfl); (· intro wS hSw; (try dsimp only [] at hSw); go_simp; first | done | with_reducible rfl))
      try simp only [Act.put, List.setIfInBounds_toArray, List.set_cons_zero, List.set_cons_succ]
      (refine wpAnyH_take (S := (fun V => V.cell? ⟨p, 0, none⟩ = some (.string N) ∧ V.cell? ⟨p, 1, none⟩ = some (.int .i64 xk) ∧ V.cell? ⟨p, 2, none⟩ = some (.int .i64 (xn : Int)) ∧ V.cell? ⟨p, 3, none⟩ = some (.bool xa) ∧ V.cell? ⟨p, 4, none⟩ = some (.bool xb) ∧ V.cell? ⟨r, 0, none⟩ = some (.string N) ∧ V.cell? ⟨r, 1, none⟩ = some (.int .i64 xk) ∧ V.cell? ⟨r, 2, none⟩ = some (.int .i64 (xn : Int)) ∧ V.cell? ⟨r, 3, none⟩ = some (.bool xa) ∧ V.cell? ⟨r, 4, none⟩ = some (.bool xb))) (i := 2) (oi := ?_) (v := ?_) ?_ ?_ ?_ ?_ ?_ (Or.inl ⟨?_, ?_⟩) hHeld ?_; rotate_left 2; (· simp only [List.getElem?_toArray, List.getElem?_cons_succ, List.getElem?_cons_zero] <;> rfl); (· kernel_rfl); (· kernel_rfl); (· kernel_rfl); (· exact fun _ _ _ h => h); (· rfl); (· intro wS hSw; (try dsimp only [] at hSw); go_simp; first | done | with_reducible rfl))
      try simp only [Act.put, List.setIfInBounds_toArray, List.set_cons_zero, List.set_cons_succ]
      first | (refine wpAnyH_take (S := (fun V => V.cell? ⟨p, 0, none⟩ = some (.string N) ∧ V.cell? ⟨p, 1, none⟩ = some (.int .i64 xk) ∧ V.cell? ⟨p, 2, none⟩ = some (.int .i64 (xn : Int)) ∧ V.cell? ⟨p, 3, none⟩ = some (.bool xa) ∧ V.cell? ⟨p, 4, none⟩ = some (.bool xb) ∧ V.cell? ⟨r, 0, none⟩ = some (.string N) ∧ V.cell? ⟨r, 1, none⟩ = some (.int .i64 xk) ∧ V.cell? ⟨r, 2, none⟩ = some (.int .i64 (xn : Int)) ∧ V.cell? ⟨r, 3, none⟩ = some (.bool xa) ∧ V.cell? ⟨r, 4, none⟩ = some (.bool xb))) (i := 3) (oi := ?_) (v := ?_) ?_ ?_ ?_ ?_ ?_ (Or.inl ⟨?_, ?_⟩) hHeld ?_; rotate_left 2; (· simp only [List.getElem?_toArray, List.getElem?_cons_succ, List.getElem?_cons_zero] <;> rfl); (· kernel_rfl); (· kernel_rfl); (· kernel_rfl); (· exact fun _ _ _ h => h); (· rfl); (· intro wS hSw; (try dsimp only [] at hSw); go_simp; first | done | with_reducible rfl)) | (refine wpAnyH_take (S := (fun V => V.cell? ⟨p, 0, none⟩ = some (.string N) ∧ V.cell? ⟨p, 1, none⟩ = some (.int .i64 xk) ∧ V.cell? ⟨p, 2, none⟩ = some (.int .i64 (xn : Int)) ∧ V.cell? ⟨p, 3, none⟩ = some (.bool xa) ∧ V.cell? ⟨p, 4, none⟩ = some (.bool xb) ∧ V.cell? ⟨r, 0, none⟩ = some (.string N) ∧ V.cell? ⟨r, 1, none⟩ = some (.int .i64 xk) ∧ V.cell? ⟨r, 2, none⟩ = some (.int .i64 (xn : Int)) ∧ V.cell? ⟨r, 3, none⟩ = some (.bool xa) ∧ V.cell? ⟨r, 4, none⟩ = some (.bool xb))) (i := 3) (oi := ?_) (v := undef) ?_ ?_ ?_ ?_ ?_ (Or.inr ⟨?_, rfl⟩) hHeld ?_; rotate_left 1; (· simp only [List.getElem?_toArray, List.getElem?_cons_succ, List.getElem?_cons_zero] <;> rfl); (· kernel_rfl); (· kernel_rfl); (· kernel_rfl); (· exact fun _ _ _ h => h); (· rfl))
      try simp only [Act.put, List.setIfInBounds_toArray, List.set_cons_zero, List.set_cons_succ]
      first | (refine wpAnyH_take (S := (fun V => V.cell? ⟨p, 0, none⟩ = some (.string N) ∧ V.cell? ⟨p, 1, none⟩ = some (.int .i64 xk) ∧ V.cell? ⟨p, 2, none⟩ = some (.int .i64 (xn : Int)) ∧ V.cell? ⟨p, 3, none⟩ = some (.bool xa) ∧ V.cell? ⟨p, 4, none⟩ = some (.bool xb) ∧ V.cell? ⟨r, 0, none⟩ = some (.string N) ∧ V.cell? ⟨r, 1, none⟩ = some (.int .i64 xk) ∧ V.cell? ⟨r, 2, none⟩ = some (.int .i64 (xn : Int)) ∧ V.cell? ⟨r, 3, none⟩ = some (.bool xa) ∧ V.cell? ⟨r, 4, none⟩ = some (.bool xb))) (i := 4) (oi := ?_) (v := ?_) ?_ ?_ ?_ ?_ ?_ (Or.inl ⟨?_, ?_⟩) hHeld ?_; rotate_left 2; (· simp only [List.getElem?_toArray, List.getElem?_cons_succ, List.getElem?_cons_zero] <;> rfl); (· kernel_rfl); (· kernel_rfl); (· kernel_rfl); (· exact fun _ _ _ h => h); (· rfl); (· intro wS hSw; (try dsimp only [] at hSw); go_simp; first | done | with_reducible rfl)) | (refine wpAnyH_take (S := (fun V => V.cell? ⟨p, 0, none⟩ = some (.string N) ∧ V.cell? ⟨p, 1, none⟩ = some (.int .i64 xk) ∧ V.cell? ⟨p, 2, none⟩ = some (.int .i64 (xn : Int)) ∧ V.cell? ⟨p, 3, none⟩ = some (.bool xa) ∧ V.cell? ⟨p, 4, none⟩ = some (.bool xb) ∧ V.cell? ⟨r, 0, none⟩ = some (.string N) ∧ V.cell? ⟨r, 1, none⟩ = some (.int .i64 xk) ∧ V.cell? ⟨r, 2, none⟩ = some (.int .i64 (xn : Int)) ∧ V.cell? ⟨r, 3, none⟩ = some (.bool xa) ∧ V.cell? ⟨r, 4, none⟩ = some (.bool xb))) (i := 4) (oi := ?_) (v := undef) ?_ ?_ ?_ ?_ ?_ (Or.inr ⟨?_, rfl⟩) hHeld ?_; rotate_left 1; (· simp only [List.getElem?_toArray, List.getElem?_cons_succ, List.getElem?_cons_zero] <;> rfl); (· kernel_rfl); (· kernel_rfl); (· kernel_rfl); (· exact fun _ _ _ h => h); (· rfl))
      try simp only [Act.put, List.setIfInBounds_toArray, List.set_cons_zero, List.set_cons_succ]
      first | (refine wpAnyH_take (S := (fun V => V.cell? ⟨p, 0, none⟩ = some (.string N) ∧ V.cell? ⟨p, 1, none⟩ = some (.int .i64 xk) ∧ V.cell? ⟨p, 2, none⟩ = some (.int .i64 (xn : Int)) ∧ V.cell? ⟨p, 3, none⟩ = some (.bool xa) ∧ V.cell? ⟨p, 4, none⟩ = some (.bool xb) ∧ V.cell? ⟨r, 0, none⟩ = some (.string N) ∧ V.cell? ⟨r, 1, none⟩ = some (.int .i64 xk) ∧ V.cell? ⟨r, 2, none⟩ = some (.int .i64 (xn : Int)) ∧ V.cell? ⟨r, 3, none⟩ = some (.bool xa) ∧ V.cell? ⟨r, 4, none⟩ = some (.bool xb))) (i := 5) (oi := ?_) (v := ?_) ?_ ?_ ?_ ?_ ?_ (Or.inl ⟨?_, ?_⟩) hHeld ?_; rotate_left 2; (· simp only [List.getElem?_toArray, List.getElem?_cons_succ, List.getElem?_cons_zero] <;> rfl); (· kernel_rfl); (· kernel_rfl); (· kernel_rfl); (· exact fun _ _ _ h => h); (· rfl); (· intro wS hSw; (try dsimp only [] at hSw); go_simp; first | done | with_reducible rfl)) | (refine wpAnyH_take (S := (fun V => V.cell? ⟨p, 0, none⟩ = some (.string N) ∧ V.cell? ⟨p, 1, none⟩ = some (.int .i64 xk) ∧ V.cell? ⟨p, 2, none⟩ = some (.int .i64 (xn : Int)) ∧ V.cell? ⟨p, 3, none⟩ = some (.bool xa) ∧ V.cell? ⟨p, 4, none⟩ = some (.bool xb) ∧ V.cell? ⟨r, 0, none⟩ = some (.string N) ∧ V.cell? ⟨r, 1, none⟩ = some (.int .i64 xk) ∧ V.cell? ⟨r, 2, none⟩ = some (.int .i64 (xn : Int)) ∧ V.cell? ⟨r, 3, none⟩ = some (.bool xa) ∧ V.cell? ⟨r, 4, none⟩ = some (.bool xb))) (i := 5) (oi := ?_) (v := undef) ?_ ?_ ?_ ?_ ?_ (Or.inr ⟨?_, rfl⟩) hHeld ?_; rotate_left 1; (· simp only [List.getElem?_toArray, List.getElem?_cons_succ, List.getElem?_cons_zero] <;> rfl); (· kernel_rfl); (· kernel_rfl); (· kernel_rfl); (· exact fun _ _ _ h => h); (· rfl))
      try simp only [Act.put, List.setIfInBounds_toArray, List.set_cons_zero, List.set_cons_succ]
      (refine wpAnyH_take (S := (fun V => V.cell? ⟨p, 0, none⟩ = some (.string N) ∧ V.cell? ⟨p, 1, none⟩ = some (.int .i64 xk) ∧ V.cell? ⟨p, 2, none⟩ = some (.int .i64 (xn : Int)) ∧ V.cell? ⟨p, 3, none⟩ = some (.bool xa) ∧ V.cell? ⟨p, 4, none⟩ = some (.bool xb) ∧ V.cell? ⟨r, 0, none⟩ = some (.string N) ∧ V.cell? ⟨r, 1, none⟩ = some (.int .i64 xk) ∧ V.cell? ⟨r, 2, none⟩ = some (.int .i64 (xn : Int)) ∧ V.cell? ⟨r, 3, none⟩ = some (.bool xa) ∧ V.cell? ⟨r, 4, none⟩ = some (.bool xb))) (i := 6) (oi := ?_) (v := ?_) ?_ ?_ ?_ ?_ ?_ (Or.inl ⟨?_, ?_⟩) hHeld ?_; rotate_left 2; (· simp only [List.getElem?_toArray, List.getElem?_cons_succ, List.getElem?_cons_zero] <;> rfl); (· kernel_rfl); (· kernel_rfl); (· kernel_rfl); (· exact fun _ _ _ h => h); (· rfl); (· intro wS hSw; (try dsimp only [] at hSw); go_simp; first | done | with_reducible rfl))
      try simp only [Act.put, List.setIfInBounds_toArray, List.set_cons_zero, List.set_cons_succ]
      (refine wpAnyH_take (S := (fun V => V.cell? ⟨p, 0, none⟩ = some (.string N) ∧ V.cell? ⟨p, 1, none⟩ = some (.int .i64 xk) ∧ V.cell? ⟨p, 2, none⟩ = some (.int .i64 (xn : Int)) ∧ V.cell? ⟨p, 3, none⟩ = some (.bool xa) ∧ V.cell? ⟨p, 4, none⟩ = some (.bool xb) ∧ V.cell? ⟨r, 0, none⟩ = some (.string N) ∧ V.cell? ⟨r, 1, none⟩ = some (.int .i64 xk) ∧ V.cell? ⟨r, 2, none⟩ = some (.int .i64 (xn : Int)) ∧ V.cell? ⟨r, 3, none⟩ = some (.bool xa) ∧ V.cell? ⟨r, 4, none⟩ = some (.bool xb))) (i := 7) (oi := ?_) (v := ?_) ?_ ?_ ?_ ?_ ?_ (Or.inl ⟨?_, ?_⟩) hHeld ?_; rotate_left 2; (· simp only [List.getElem?_toArray, List.getElem?_cons_succ, List.getElem?_cons_zero] <;> rfl); (· kernel_rfl); (· kernel_rfl); (· kernel_rfl); (· exact fun _ _ _ h => h); (· rfl); (· intro wS hSw; (try dsimp only [] at hSw); go_simp; first | done | with_reducible rfl))
      try simp only [Act.put, List.setIfInBounds_toArray, List.set_cons_zero, List.set_cons_succ]
      first | (refine wpAnyH_take (S := (fun V => V.cell? ⟨p, 0, none⟩ = some (.string N) ∧ V.cell? ⟨p, 1, none⟩ = some (.int .i64 xk) ∧ V.cell? ⟨p, 2, none⟩ = some (.int .i64 (xn : Int)) ∧ V.cell? ⟨p, 3, none⟩ = some (.bool xa) ∧ V.cell? ⟨p, 4, none⟩ = some (.bool xb) ∧ V.cell? ⟨r, 0, none⟩ = some (.string N) ∧ V.cell? ⟨r, 1, none⟩ = some (.int .i64 xk) ∧ V.cell? ⟨r, 2, none⟩ = some (.int .i64 (xn : Int)) ∧ V.cell? ⟨r, 3, none⟩ = some (.bool xa) ∧ V.cell? ⟨r, 4, none⟩ = some (.bool xb))) (i := 8) (oi := ?_) (v := ?_) ?_ ?_ ?_ ?_ ?_ (Or.inl ⟨?_, ?_⟩) hHeld ?_; rotate_left 2; (· simp only [List.getElem?_toArray, List.getElem?_cons_succ, List.getElem?_cons_zero] <;> rfl); (· kernel_rfl); (· kernel_rfl); (· kernel_rfl); (· exact fun _ _ _ h => h); (· rfl); (· intro wS hSw; (try dsimp only [] at hSw); go_simp; first | done | with_reducible rfl)) | (refine wpAnyH_take (S := (fun V => V.cell? ⟨p, 0, none⟩ = some (.string N) ∧ V.cell? ⟨p, 1, none⟩ = some (.int .i64 xk) ∧ V.cell? ⟨p, 2, none⟩ = some (.int .i64 (xn : Int)) ∧ V.cell? ⟨p, 3, none⟩ = some (.bool xa) ∧ V.cell? ⟨p, 4, none⟩ = some (.bool xb) ∧ V.cell? ⟨r, 0, none⟩ = some (.string N) ∧ V.cell? ⟨r, 1, none⟩ = some (.int .i64 xk) ∧ V.cell? ⟨r, 2, none⟩ = some (.int .i64 (xn : Int)) ∧ V.cell? ⟨r, 3, none⟩ = some (.bool xa) ∧ V.cell? ⟨r, 4, none⟩ = some (.bool xb))) (i := 8) (oi := ?_) (v := undef) ?_ ?_ ?_ ?_ ?_ (Or.inr ⟨?_, rfl⟩) hHeld ?_; rotate_left 1; (· simp only [List.getElem?_toArray, List.getElem?_cons_succ, List.getElem?_cons_zero] <;> rfl); (· kernel_rfl); (· kernel_rfl); (· kernel_rfl); (· exact fun _ _ _ h => h); (· rfl))
      try simp only [Act.put, List.setIfInBounds_toArray, List.set_cons_zero, List.set_cons_succ]
      first | (refine wpAnyH_take (S := (fun V => V.cell? ⟨p, 0, none⟩ = some (.string N) ∧ V.cell? ⟨p, 1, none⟩ = some (.int .i64 xk) ∧ V.cell? ⟨p, 2, none⟩ = some (.int .i64 (xn : Int)) ∧ V.cell? ⟨p, 3, none⟩ = some (.bool xa) ∧ V.cell? ⟨p, 4, none⟩ = some (.bool xb) ∧ V.cell? ⟨r, 0, none⟩ = some (.string N) ∧ V.cell? ⟨r, 1, none⟩ = some (.int .i64 xk) ∧ V.cell? ⟨r, 2, none⟩ = some (.int .i64 (xn : Int)) ∧ V.cell? ⟨r, 3, none⟩ = some (.bool xa) ∧ V.cell? ⟨r, 4, none⟩ = some (.bool xb))) (i := 9) (oi := ?_) (v := ?_) ?_ ?_ ?_ ?_ ?_ (Or.inl ⟨?_, ?_⟩) hHeld ?_; rotate_left 2; (· simp only [List.getElem?_toArray, List.getElem?_cons_succ, List.getElem?_cons_zero] <;> rfl); (· kernel_rfl); (· kernel_rfl); (· kernel_rfl); (· exact fun _ _ _ h => h); (· rfl); (· intro wS hSw; (try dsimp only [] at hSw); go_simp; first | done | with_reducible rfl)) | (refine wpAnyH_take (S := (fun V => V.cell? ⟨p, 0, none⟩ = some (.string N) ∧ V.cell? ⟨p, 1, none⟩ = some (.int .i64 xk) ∧ V.cell? ⟨p, 2, none⟩ = some (.int .i64 (xn : Int)) ∧ V.cell? ⟨p, 3, none⟩ = some (.bool xa) ∧ V.cell? ⟨p, 4, none⟩ = some (.bool xb) ∧ V.cell? ⟨r, 0, none⟩ = some (.string N) ∧ V.cell? ⟨r, 1, none⟩ = some (.int .i64 xk) ∧ V.cell? ⟨r, 2, none⟩ = some (.int .i64 (xn : Int)) ∧ V.cell? ⟨r, 3, none⟩ = some (.bool xa) ∧ V.cell? ⟨r, 4, none⟩ = some (.bool xb))) (i := 9) (oi := ?_) (v := undef) ?_ ?_ ?_ ?_ ?_ (Or.inr ⟨?_, rfl⟩) hHeld ?_; rotate_left 1; (· simp only [List.getElem?_toArray, List.getElem?_cons_succ, List.getElem?_cons_zero] <;> rfl); (· kernel_rfl); (· kernel_rfl); (· kernel_rfl); (· exact fun _ _ _ h => h); (· rfl))
      try simp only [Act.put, List.setIfInBounds_toArray, List.set_cons_zero, List.set_cons_succ]
      first | (refine wpAnyH_take (S := (fun V => V.cell? ⟨p, 0, none⟩ = some (.string N) ∧ V.cell? ⟨p, 1, none⟩ = some (.int .i64 xk) ∧ V.cell? ⟨p, 2, none⟩ = some (.int .i64 (xn : Int)) ∧ V.cell? ⟨p, 3, none⟩ = some (.bool xa) ∧ V.cell? ⟨p, 4, none⟩ = some (.bool xb) ∧ V.cell? ⟨r, 0, none⟩ = some (.string N) ∧ V.cell? ⟨r, 1, none⟩ = some (.int .i64 xk) ∧ V.cell? ⟨r, 2, none⟩ = some (.int .i64 (xn : Int)) ∧ V.cell? ⟨r, 3, none⟩ = some (.bool xa) ∧ V.cell? ⟨r, 4, none⟩ = some (.bool xb))) (i := 10) (oi := ?_) (v := ?_) ?_ ?_ ?_ ?_ ?_ (Or.inl ⟨?_, ?_⟩) hHeld ?_; rotate_left 2; (· simp only [List.getElem?_toArray, List.getElem?_cons_succ, List.getElem?_cons_zero] <;> rfl); (· kernel_rfl); (· kernel_rfl); (· kernel_rfl); (· exact fun _ _ _ h => h); (· rfl); (· intro wS hSw; (try dsimp only [] at hSw); go_simp; first | done | with_reducible rfl)) | (refine wpAnyH_take (S := (fun V => V.cell? ⟨p, 0, none⟩ = some (.string N) ∧ V.cell? ⟨p, 1, none⟩ = some (.int .i64 xk) ∧ V.cell? ⟨p, 2, none⟩ = some (.int .i64 (xn : Int)) ∧ V.cell? ⟨p, 3, none⟩ = some (.bool xa) ∧ V.cell? ⟨p, 4, none⟩ = some (.bool xb) ∧ V.cell? ⟨r, 0, none⟩ = some (.string N) ∧ V.cell? ⟨r, 1, none⟩ = some (.int .i64 xk) ∧ V.cell? ⟨r, 2, none⟩ = some (.int .i64 (xn : Int)) ∧ V.cell? ⟨r, 3, none⟩ = some (.bool xa) ∧ V.cell? ⟨r, 4, none⟩ = some (.bool xb))) (i := 10) (oi := ?_) (v := undef) ?_ ?_ ?_ ?_ ?_ (Or.inr ⟨?_, rfl⟩) hHeld ?_; rotate_left 1; (· simp only [List.getElem?_toArray, List.getElem?_cons_succ, List.getElem?_cons_zero] <;> rfl); (· kernel_rfl); (· kernel_rfl); (· kernel_rfl); (· exact fun _ _ _ h => h); (· rfl))
      try simp only [Act.put, List.setIfInBounds_toArray, List.set_cons_zero, List.set_cons_succ]
      first | (refine wpAnyH_take (S := (fun V => V.cell? ⟨p, 0, none⟩ = some (.string N) ∧ V.cell? ⟨p, 1, none⟩ = some (.int .i64 xk) ∧ V.cell? ⟨p, 2, none⟩ = some (.int .i64 (xn : Int)) ∧ V.cell? ⟨p, 3, none⟩ = some (.bool xa) ∧ V.cell? ⟨p, 4, none⟩ = some (.bool xb) ∧ V.cell? ⟨r, 0, none⟩ = some (.string N) ∧ V.cell? ⟨r, 1, none⟩ = some (.int .i64 xk) ∧ V.cell? ⟨r, 2, none⟩ = some (.int .i64 (xn : Int)) ∧ V.cell? ⟨r, 3, none⟩ = some (.bool xa) ∧ V.cell? ⟨r, 4, none⟩ = some (.bool xb))) (i := 11) (oi := ?_) (v := ?_) ?_ ?_ ?_ ?_ ?_ (Or.inl ⟨?_, ?_⟩) hHeld ?_; rotate_left 2; (· simp only [List.getElem?_toArray, List.getElem?_cons_succ, List.getElem?_cons_zero] <;> rfl); (· kernel_rfl); (· kernel_rfl); (· kernel_rfl); (· exact fun _ _ _ h => h); (· rfl); (· intro wS hSw; (try dsimp only [] at hSw); go_simp; first | done | with_reducible rfl)) | (refine wpAnyH_take (S := (fun V => V.cell? ⟨p, 0, none⟩ = some (.string N) ∧ V.cell? ⟨p, 1, none⟩ = some (.int .i64 xk) ∧ V.cell? ⟨p, 2, none⟩ = some (.int .i64 (xn : Int)) ∧ V.cell? ⟨p, 3, none⟩ = some (.bool xa) ∧ V.cell? ⟨p, 4, none⟩ = some (.bool xb) ∧ V.cell? ⟨r, 0, none⟩ = some (.string N) ∧ V.cell? ⟨r, 1, none⟩ = some (.int .i64 xk) ∧ V.cell? ⟨r, 2, none⟩ = some (.int .i64 (xn : Int)) ∧ V.cell? ⟨r, 3, none⟩ = some (.bool xa) ∧ V.cell? ⟨r, 4, none⟩ = some (.bool xb))) (i := 11) (oi := ?_) (v := undef) ?_ ?_ ?_ ?_ ?_ (Or.inr ⟨?_, rfl⟩) hHeld ?_; rotate_left 1; (· simp only [List.getElem?_toArray, List.getElem?_cons_succ, List.getElem?_cons_zero] <;> rfl); (· kernel_rfl); (· kernel_rfl); (· kernel_rfl); (· exact fun _ _ _ h => h); (· rfl))
      try simp only [Act.put, List.setIfInBounds_toArray, List.set_cons_zero, List.set_cons_succ]
      first | (refine wpAnyH_take (S := (fun V => V.cell? ⟨p, 0, none⟩ = some (.string N) ∧ V.cell? ⟨p, 1, none⟩ = some (.int .i64 xk) ∧ V.cell? ⟨p, 2, none⟩ = some (.int .i64 (xn : Int)) ∧ V.cell? ⟨p, 3, none⟩ = some (.bool xa) ∧ V.cell? ⟨p, 4, none⟩ = some (.bool xb) ∧ V.cell? ⟨r, 0, none⟩ = some (.string N) ∧ V.cell? ⟨r, 1, none⟩ = some (.int .i64 xk) ∧ V.cell? ⟨r, 2, none⟩ = some (.int .i64 (xn : Int)) ∧ V.cell? ⟨r, 3, none⟩ = some (.bool xa) ∧ V.cell? ⟨r, 4, none⟩ = some (.bool xb))) (i := 13) (oi := ?_) (v := ?_) ?_ ?_ ?_ ?_ ?_ (Or.inl ⟨?_, ?_⟩) hHeld ?_; rotate_left 2; (· simp only [List.getElem?_toArray, List.getElem?_cons_succ, List.getElem?_cons_zero] <;> rfl); (· kernel_rfl); (· kernel_rfl); (· kernel_rfl); (· exact fun _ _ _ h => h); (· rfl); (· intro wS hSw; (try dsimp only [] at hSw); go_simp; first | done | with_reducible rfl)) | (refine wpAnyH_take (S := (fun V => V.cell? ⟨p, 0, none⟩ = some (.string N) ∧ V.cell? ⟨p, 1, none⟩ = some (.int .i64 xk) ∧ V.cell? ⟨p, 2, none⟩ = some (.int .i64 (xn : Int)) ∧ V.cell? ⟨p, 3, none⟩ = some (.bool xa) ∧ V.cell? ⟨p, 4, none⟩ = some (.bool xb) ∧ V.cell? ⟨r, 0, none⟩ = some (.string N) ∧ V.cell? ⟨r, 1, none⟩ = some (.int .i64 xk) ∧ V.cell? ⟨r, 2, none⟩ = some (.int .i64 (xn : Int)) ∧ V.cell? ⟨r, 3, none⟩ = some (.bool xa) ∧ V.cell? ⟨r, 4, none⟩ = some (.bool xb))) (i := 13) (oi := ?_) (v := undef) ?_ ?_ ?_ ?_ ?_ (Or.inr ⟨?_, rfl⟩) hHeld ?_; rotate_left 1; (· simp only [List.getElem?_toArray, List.getElem?_cons_succ, List.getElem?_cons_zero] <;> rfl); (· kernel_rfl); (· kernel_rfl); (· kernel_rfl); (· exact fun _ _ _ h => h); (· rfl))
      try simp only [Act.put, List.setIfInBounds_toArray, List.set_cons_zero, List.set_cons_succ]
      first | (refine wpAnyH_take (S := (fun V => V.cell? ⟨p, 0, none⟩ = some (.string N) ∧ V.cell? ⟨p, 1, none⟩ = some (.int .i64 xk) ∧ V.cell? ⟨p, 2, none⟩ = some (.int .i64 (xn : Int)) ∧ V.cell? ⟨p, 3, none⟩ = some (.bool xa) ∧ V.cell? ⟨p, 4, none⟩ = some (.bool xb) ∧ V.cell? ⟨r, 0, none⟩ = some (.string N) ∧ V.cell? ⟨r, 1, none⟩ = some (.int .i64 xk) ∧ V.cell? ⟨r, 2, none⟩ = some (.int .i64 (xn : Int)) ∧ V.cell? ⟨r, 3, none⟩ = some (.bool xa) ∧ V.cell? ⟨r, 4, none⟩ = some (.bool xb))) (i := 14) (oi := ?_) (v := ?_) ?_ ?_ ?_ ?_ ?_ (Or.inl ⟨?_, ?_⟩) hHeld ?_; rotate_left 2; (· simp only [List.getElem?_toArray, List.getElem?_cons_succ, List.getElem?_cons_zero] <;> rfl); (· kernel_rfl); (· kernel_rfl); (· kernel_rfl); (· exact fun _ _ _ h => h); (· rfl); (· intro wS hSw; (try dsimp only [] at hSw); go_simp; first | done | with_reducible rfl)) | (refine wpAnyH_take (S := (fun V => V.cell? ⟨p, 0, none⟩ = some (.string N) ∧ V.cell? ⟨p, 1, none⟩ = some (.int .i64 xk) ∧ V.cell? ⟨p, 2, none⟩ = some (.int .i64 (xn : Int)) ∧ V.cell? ⟨p, 3, none⟩ = some (.bool xa) ∧ V.cell? ⟨p, 4, none⟩ = some (.bool xb) ∧ V.cell? ⟨r, 0, none⟩ = some (.string N) ∧ V.cell? ⟨r, 1, none⟩ = some (.int .i64 xk) ∧ V.cell? ⟨r, 2, none⟩ = some (.int .i64 (xn : Int)) ∧ V.cell? ⟨r, 3, none⟩ = some (.bool xa) ∧ V.cell? ⟨r, 4, none⟩ = some (.bool xb))) (i := 14) (oi := ?_) (v := undef) ?_ ?_ ?_ ?_ ?_ (Or.inr ⟨?_, rfl⟩) hHeld ?_; rotate_left 1; (· simp only [List.getElem?_toArray, List.getElem?_cons_succ, List.getElem?_cons_zero] <;> rfl); (· kernel_rfl); (· kernel_rfl); (· kernel_rfl); (· exact fun _ _ _ h => h); (· rfl))
      try simp only [Act.put, List.setIfInBounds_toArray, List.set_cons_zero, List.set_cons_succ]
      first | (refine wpAnyH_take (S := (fun V => V.cell? ⟨p, 0, none⟩ = some (.string N) ∧ V.cell? ⟨p, 1, none⟩ = some (.int .i64 xk) ∧ V.cell? ⟨p, 2, none⟩ = some (.int .i64 (xn : Int)) ∧ V.cell? ⟨p, 3, none⟩ = some (.bool xa) ∧ V.cell? ⟨p, 4, none⟩ = some (.bool xb) ∧ V.cell? ⟨r, 0, none⟩ = some (.string N) ∧ V.cell? ⟨r, 1, none⟩ = some (.int .i64 xk) ∧ V.cell? ⟨r, 2, none⟩ = some (.int .i64 (xn : Int)) ∧ V.cell? ⟨r, 3, none⟩ = some (.bool xa) ∧ V.cell? ⟨r, 4, none⟩ = some (.bool xb))) (i := 12) (oi := ?_) (v := undef) ?_ ?_ ?_ ?_ ?_ (Or.inr ⟨?_, rfl⟩) hHeld ?_; rotate_left 1; (· simp only [List.getElem?_toArray, List.getElem?_cons_succ, List.getElem?_cons_zero] <;> rfl); (· kernel_rfl); (· kernel_rfl); (· kernel_rfl); (· exact fun _ _ _ h => h); (· rfl)) | (refine wpAnyH_ready (rs := [12]) (by kernel_rfl) (by simp) ?_; refine AllReadyH.cons (o := ?_) ?_ (fun K hK => ?_) AllReadyH.nil; rotate_left 1; (· simp only [List.getElem?_toArray, List.getElem?_cons_succ, List.getElem?_cons_zero] <;> rfl); go_simp; (with_reducible refine (XS.out _).mono ?_); rintro e w7 ⟨rfl, m7⟩; have HS1 := Lib.hid (keep10 HS0.out m7); (try go_wp2_with fail); refine hK.out _ _ ?_ (fun hHeld => ?_); (· exact HS1.out); clear hK K)
      try simp only [Act.put, List.setIfInBounds_toArray, List.set_cons_zero, List.set_cons_succ]
      first | (refine wpAnyH_take (S := (fun V => V.cell? ⟨p, 0, none⟩ = some (.string N) ∧ V.cell? ⟨p, 1, none⟩ = some (.int .i64 xk) ∧ V.cell? ⟨p, 2, none⟩ = some (.int .i64 (xn : Int)) ∧ V.cell? ⟨p, 3, none⟩ = some (.bool xa) ∧ V.cell? ⟨p, 4, none⟩ = some (.bool xb) ∧ V.cell? ⟨r, 0, none⟩ = some (.string N) ∧ V.cell? ⟨r, 1, none⟩ = some (.int .i64 xk) ∧ V.cell? ⟨r, 2, none⟩ = some (.int .i64 (xn : Int)) ∧ V.cell? ⟨r, 3, none⟩ = some (.bool xa) ∧ V.cell? ⟨r, 4, none⟩ = some (.bool xb))) (i := 15) (oi := ?_) (v := ?_) ?_ ?_ ?_ ?_ ?_ (Or.inl ⟨?_, ?_⟩) hHeld ?_; rotate_left 2; (· simp only [List.getElem?_toArray, List.getElem?_cons_succ, List.getElem?_cons_zero] <;> rfl); (· kernel_rfl); (· kernel_rfl); (· kernel_rfl); (· exact fun _ _ _ h => h); (· rfl); (· intro wS hSw; (try dsimp only [] at hSw); go_simp; first | done | with_reducible rfl)) | (refine wpAnyH_take (S := (fun V => V.cell? ⟨p, 0, none⟩ = some (.string N) ∧ V.cell? ⟨p, 1, none⟩ = some (.int .i64 xk) ∧ V.cell? ⟨p, 2, none⟩ = some (.int .i64 (xn : Int)) ∧ V.cell? ⟨p, 3, none⟩ = some (.bool xa) ∧ V.cell? ⟨p, 4, none⟩ = some (.bool xb) ∧ V.cell? ⟨r, 0, none⟩ = some (.string N) ∧ V.cell? ⟨r, 1, none⟩ = some (.int .i64 xk) ∧ V.cell? ⟨r, 2, none⟩ = some (.int .i64 (xn : Int)) ∧ V.cell? ⟨r, 3, none⟩ = some (.bool xa) ∧ V.cell? ⟨r, 4, none⟩ = some (.bool xb))) (i := 15) (oi := ?_) (v := undef) ?_ ?_ ?_ ?_ ?_ (Or.inr ⟨?_, rfl⟩) hHeld ?_; rotate_left 1; (· simp only [List.getElem?_toArray, List.getElem?_cons_succ, List.getElem?_cons_zero] <;> rfl); (· kernel_rfl); (· kernel_rfl); (· kernel_rfl); (· exact fun _ _ _ h => h); (· rfl))
      try simp only [Act.put, List.setIfInBounds_toArray, List.set_cons_zero, List.set_cons_succ]
      (refine wpAnyH_take (S := (fun V => V.cell? ⟨p, 0, none⟩ = some (.string N) ∧ V.cell? ⟨p, 1, none⟩ = some (.int .i64 xk) ∧ V.cell? ⟨p, 2, none⟩ = some (.int .i64 (xn : Int)) ∧ V.cell? ⟨p, 3, none⟩ = some (.bool xa) ∧ V.cell? ⟨p, 4, none⟩ = some (.bool xb) ∧ V.cell? ⟨r, 0, none⟩ = some (.string N) ∧ V.cell? ⟨r, 1, none⟩ = some (.int .i64 xk) ∧ V.cell? ⟨r, 2, none⟩ = some (.int .i64 (xn : Int)) ∧ V.cell? ⟨r, 3, none⟩ = some (.bool xa) ∧ V.cell? ⟨r, 4, none⟩ = some (.bool xb))) (i := 16) (oi := ?_) (v := ?_) ?_ ?_ ?_ ?_ ?_ (Or.inl ⟨?_, ?_⟩) hHeld ?_; rotate_left 2; (· simp only [List.getElem?_toArray, List.getElem?_cons_succ, List.getElem?_cons_zero] <;> rfl); (· kernel_rfl); (· kernel_rfl); (· kernel_rfl); (· exact fun _ _ _ h => h); (· rfl); (· intro wS hSw; (try dsimp only [] at hSw); go_simp; first | done | with_reducible rfl))
      try simp only [Act.put, List.setIfInBounds_toArray, List.set_cons_zero, List.set_cons_succ]
      (refine wpAnyH_take (S := (fun V => V.cell? ⟨p, 0, none⟩ = some (.string N) ∧ V.cell? ⟨p, 1, none⟩ = some (.int .i64 xk) ∧ V.cell? ⟨p, 2, none⟩ = some (.int .i64 (xn : Int)) ∧ V.cell? ⟨p, 3, none⟩ = some (.bool xa) ∧ V.cell? ⟨p, 4, none⟩ = some (.bool xb) ∧ V.cell? ⟨r, 0, none⟩ = some (.string N) ∧ V.cell? ⟨r, 1, none⟩ = some (.int .i64 xk) ∧ V.cell? ⟨r, 2, none⟩ = some (.int .i64 (xn : Int)) ∧ V.cell? ⟨r, 3, none⟩ = some (.bool xa) ∧ V.cell? ⟨r, 4, none⟩ = some (.bool xb))) (i := 17) (oi := ?_) (v := ?_) ?_ ?_ ?_ ?_ ?_ (Or.inl ⟨?_, ?_⟩) hHeld ?_; rotate_left 2; (· simp only [List.getElem?_toArray, List.getElem?_cons_succ, List.getElem?_cons_zero] <;> rfl); (· kernel_rfl); (· kernel_rfl); (· kernel_rfl); (· exact fun _ _ _ h => h); (· rfl); (· intro wS hSw; (try dsimp only [] at hSw); go_simp; first | done | with_reducible rfl))
      try simp only [Act.put, List.setIfInBounds_toArray, List.set_cons_zero, List.set_cons_succ]
      first | (refine wpAnyH_take (S := (fun V => V.cell? ⟨p, 0, none⟩ = some (.string N) ∧ V.cell? ⟨p, 1, none⟩ = some (.int .i64 xk) ∧ V.cell? ⟨p, 2, none⟩ = some (.int .i64 (xn : Int)) ∧ V.cell? ⟨p, 3, none⟩ = some (.bool xa) ∧ V.cell? ⟨p, 4, none⟩ = some (.bool xb) ∧ V.cell? ⟨r, 0, none⟩ = some (.string N) ∧ V.cell? ⟨r, 1, none⟩ = some (.int .i64 xk) ∧ V.cell? ⟨r, 2, none⟩ = some (.int .i64 (xn : Int)) ∧ V.cell? ⟨r, 3, none⟩ = some (.bool xa) ∧ V.cell? ⟨r, 4, none⟩ = some (.bool xb))) (i := 18) (oi := ?_) (v := ?_) ?_ ?_ ?_ ?_ ?_ (Or.inl ⟨?_, ?_⟩) hHeld ?_; rotate_left 2; (· simp only [List.getElem?_toArray, List.getElem?_cons_succ, List.getElem?_cons_zero] <;> rfl); (· kernel_rfl); (· kernel_rfl); (· kernel_rfl); (· exact fun _ _ _ h => h); (· rfl); (· intro wS hSw; (try dsimp only [] at hSw); go_simp; first | done | with_reducible rfl)) | (refine wpAnyH_take (S := (fun V => V.cell? ⟨p, 0, none⟩ = some (.string N) ∧ V.cell? ⟨p, 1, none⟩ = some (.int .i64 xk) ∧ V.cell? ⟨p, 2, none⟩ = some (.int .i64 (xn : Int)) ∧ V.cell? ⟨p, 3, none⟩ = some (.bool xa) ∧ V.cell? ⟨p, 4, none⟩ = some (.bool xb) ∧ V.cell? ⟨r, 0, none⟩ = some (.string N) ∧ V.cell? ⟨r, 1, none⟩ = some (.int .i64 xk) ∧ V.cell? ⟨r, 2, none⟩ = some (.int .i64 (xn : Int)) ∧ V.cell? ⟨r, 3, none⟩ = some (.bool xa) ∧ V.cell? ⟨r, 4, none⟩ = some (.bool xb))) (i := 18) (oi := ?_) (v := undef) ?_ ?_ ?_ ?_ ?_ (Or.inr ⟨?_, rfl⟩) hHeld ?_; rotate_left 1; (· simp only [List.getElem?_toArray, List.getElem?_cons_succ, List.getElem?_cons_zero] <;> rfl); (· kernel_rfl); (· kernel_rfl); (· kernel_rfl); (· exact fun _ _ _ h => h); (· rfl))
      try simp only [Act.put, List.setIfInBounds_toArray, List.set_cons_zero, List.set_cons_succ]
      first | (refine wpAnyH_take (S := (fun V => V.cell? ⟨p, 0, none⟩ = some (.string N) ∧ V.cell? ⟨p, 1, none⟩ = some (.int .i64 xk) ∧ V.cell? ⟨p, 2, none⟩ = some (.int .i64 (xn : Int)) ∧ V.cell? ⟨p, 3, none⟩ = some (.bool xa) ∧ V.cell? ⟨p, 4, none⟩ = some (.bool xb) ∧ V.cell? ⟨r, 0, none⟩ = some (.string N) ∧ V.cell? ⟨r, 1, none⟩ = some (.int .i64 xk) ∧ V.cell? ⟨r, 2, none⟩ = some (.int .i64 (xn : Int)) ∧ V.cell? ⟨r, 3, none⟩ = some (.bool xa) ∧ V.cell? ⟨r, 4, none⟩ = some (.bool xb))) (i := 19) (oi := ?_) (v := ?_) ?_ ?_ ?_ ?_ ?_ (Or.inl ⟨?_, ?_⟩) hHeld ?_; rotate_left 2; (· simp only [List.getElem?_toArray, List.getElem?_cons_succ, List.getElem?_cons_zero] <;> rfl); (· kernel_rfl); (· kernel_rfl); (· kernel_rfl); (· exact fun _ _ _ h => h); (· rfl); (· intro wS hSw; (try dsimp only [] at hSw); go_simp; first | done | with_reducible rfl)) | (refine wpAnyH_take (S := (fun V => V.cell? ⟨p, 0, none⟩ = some (.string N) ∧ V.cell? ⟨p, 1, none⟩ = some (.int .i64 xk) ∧ V.cell? ⟨p, 2, none⟩ = some (.int .i64 (xn : Int)) ∧ V.cell? ⟨p, 3, none⟩ = some (.bool xa) ∧ V.cell? ⟨p, 4, none⟩ = some (.bool xb) ∧ V.cell? ⟨r, 0, none⟩ = some (.string N) ∧ V.cell? ⟨r, 1, none⟩ = some (.int .i64 xk) ∧ V.cell? ⟨r, 2, none⟩ = some (.int .i64 (xn : Int)) ∧ V.cell? ⟨r, 3, none⟩ = some (.bool xa) ∧ V.cell? ⟨r, 4, none⟩ = some (.bool xb))) (i := 19) (oi := ?_) (v := undef) ?_ ?_ ?_ ?_ ?_ (Or.inr ⟨?_, rfl⟩) hHeld ?_; rotate_left 1; (· simp only [List.getElem?_toArray, List.getElem?_cons_succ, List.getElem?_cons_zero] <;> rfl); (· kernel_rfl); (· kernel_rfl); (· kernel_rfl); (· exact fun _ _ _ h => h); (· rfl))
      try simp only [Act.put, List.setIfInBounds_toArray, List.set_cons_zero, List.set_cons_succ]
      first | (refine wpAnyH_take (S := (fun V => V.cell? ⟨p, 0, none⟩ = some (.string N) ∧ V.cell? ⟨p, 1, none⟩ = some (.int .i64 xk) ∧ V.cell? ⟨p, 2, none⟩ = some (.int .i64 (xn : Int)) ∧ V.cell? ⟨p, 3, none⟩ = some (.bool xa) ∧ V.cell? ⟨p, 4, none⟩ = some (.bool xb) ∧ V.cell? ⟨r, 0, none⟩ = some (.string N) ∧ V.cell? ⟨r, 1, none⟩ = some (.int .i64 xk) ∧ V.cell? ⟨r, 2, none⟩ = some (.int .i64 (xn : Int)) ∧ V.cell? ⟨r, 3, none⟩ = some (.bool xa) ∧ V.cell? ⟨r, 4, none⟩ = some (.bool xb))) (i := 20) (oi := ?_) (v := ?_) ?_ ?_ ?_ ?_ ?_ (Or.inl ⟨?_, ?_⟩) hHeld ?_; rotate_left 2; (· simp only [List.getElem?_toArray, List.getElem?_cons_succ, List.getElem?_cons_zero] <;> rfl); (· kernel_rfl); (· kernel_rfl); (· kernel_rfl); (· exact fun _ _ _ h => h); (· rfl); (· intro wS hSw; (try dsimp only [] at hSw); go_simp; first | done | with_reducible rfl)) | (refine wpAnyH_take (S := (fun V => V.cell? ⟨p, 0, none⟩ = some (.string N) ∧ V.cell? ⟨p, 1, none⟩ = some (.int .i64 xk) ∧ V.cell? ⟨p, 2, none⟩ = some (.int .i64 (xn : Int)) ∧ V.cell? ⟨p, 3, none⟩ = some (.bool xa) ∧ V.cell? ⟨p, 4, none⟩ = some (.bool xb) ∧ V.cell? ⟨r, 0, none⟩ = some (.string N) ∧ V.cell? ⟨r, 1, none⟩ = some (.int .i64 xk) ∧ V.cell? ⟨r, 2, none⟩ = some (.int .i64 (xn : Int)) ∧ V.cell? ⟨r, 3, none⟩ = some (.bool xa) ∧ V.cell? ⟨r, 4, none⟩ = some (.bool xb))) (i := 20) (oi := ?_) (v := undef) ?_ ?_ ?_ ?_ ?_ (Or.inr ⟨?_, rfl⟩) hHeld ?_; rotate_left 1; (· simp only [List.getElem?_toArray, List.getElem?_cons_succ, List.getElem?_cons_zero] <;> rfl); (· kernel_rfl); (· kernel_rfl); (· kernel_rfl); (· exact fun _ _ _ h => h); (· rfl))
      try simp only [Act.put, List.setIfInBounds_toArray, List.set_cons_zero, List.set_cons_succ]
      (refine wpAnyH_take (S := (fun V => V.cell? ⟨p, 0, none⟩ = some (.string N) ∧ V.cell? ⟨p, 1, none⟩ = some (.int .i64 xk) ∧ V.cell? ⟨p, 2, none⟩ = some (.int .i64 (xn : Int)) ∧ V.cell? ⟨p, 3, none⟩ = some (.bool xa) ∧ V.cell? ⟨p, 4, none⟩ = some (.bool xb) ∧ V.cell? ⟨r, 0, none⟩ = some (.string N) ∧ V.cell? ⟨r, 1, none⟩ = some (.int .i64 xk) ∧ V.cell? ⟨r, 2, none⟩ = some (.int .i64 (xn : Int)) ∧ V.cell? ⟨r, 3, none⟩ = some (.bool xa) ∧ V.cell? ⟨r, 4, none⟩ = some (.bool xb))) (i := 21) (oi := ?_) (v := ?_) ?_ ?_ ?_ ?_ ?_ (Or.inl ⟨?_, ?_⟩) hHeld ?_; rotate_left 2; (· simp only [List.getElem?_toArray, List.getElem?_cons_succ, List.getElem?_cons_zero] <;> rfl); (· kernel_rfl); (· kernel_rfl); (· kernel_rfl); (· exact fun _ _ _ h => h); (· rfl); (· intro wS hSw; (try dsimp only [] at hSw); go_simp; first | done | with_reducible rfl))
      try simp only [Act.put, List.setIfInBounds_toArray, List.set_cons_zero, List.set_cons_succ]
      (refine wpAnyH_take (S := (fun V => V.cell? ⟨p, 0, none⟩ = some (.string N) ∧ V.cell? ⟨p, 1, none⟩ = some (.int .i64 xk) ∧ V.cell? ⟨p, 2, none⟩ = some (.int .i64 (xn : Int)) ∧ V.cell? ⟨p, 3, none⟩ = some (.bool xa) ∧ V.cell? ⟨p, 4, none⟩ = some (.bool xb) ∧ V.cell? ⟨r, 0, none⟩ = some (.string N) ∧ V.cell? ⟨r, 1, none⟩ = some (.int .i64 xk) ∧ V.cell? ⟨r, 2, none⟩ = some (.int .i64 (xn : Int)) ∧ V.cell? ⟨r, 3, none⟩ = some (.bool xa) ∧ V.cell? ⟨r, 4, none⟩ = some (.bool xb))) (i := 22) (oi := ?_) (v := ?_) ?_ ?_ ?_ ?_ ?_ (Or.inl ⟨?_, ?_⟩) hHeld ?_; rotate_left 2; (· simp only [List.getElem?_toArray, List.getElem?_cons_succ, List.getElem?_cons_zero] <;> rfl); (· kernel_rfl); (· kernel_rfl); (· kernel_rfl); (· exact fun _ _ _ h => h); (· rfl); (· intro wS hSw; (try dsimp only [] at hSw); go_simp; first | done | with_reducible rfl))
      try simp only [Act.put, List.setIfInBounds_toArray, List.set_cons_zero, List.set_cons_succ]
      first | (refine wpAnyH_take (S := (fun V => V.cell? ⟨p, 0, none⟩ = some (.string N) ∧ V.cell? ⟨p, 1, none⟩ = some (.int .i64 xk) ∧ V.cell? ⟨p, 2, none⟩ = some (.int .i64 (xn : Int)) ∧ V.cell? ⟨p, 3, none⟩ = some (.bool xa) ∧ V.cell? ⟨p, 4, none⟩ = some (.bool xb) ∧ V.cell? ⟨r, 0, none⟩ = some (.string N) ∧ V.cell? ⟨r, 1, none⟩ = some (.int .i64 xk) ∧ V.cell? ⟨r, 2, none⟩ = some (.int .i64 (xn : Int)) ∧ V.cell? ⟨r, 3, none⟩ = some (.bool xa) ∧ V.cell? ⟨r, 4, none⟩ = some (.bool xb))) (i := 23) (oi := ?_) (v := ?_) ?_ ?_ ?_ ?_ ?_ (Or.inl ⟨?_, ?_⟩) hHeld ?_; rotate_left 2; (· simp only [List.getElem?_toArray, List.getElem?_cons_succ, List.getElem?_cons_zero] <;> rfl); (· kernel_rfl); (· kernel_rfl); (· kernel_rfl); (· exact fun _ _ _ h => h); (· rfl); (· intro wS hSw; (try dsimp only [] at hSw); go_simp; first | done | with_reducible rfl)) | (refine wpAnyH_take (S := (fun V => V.cell? ⟨p, 0, none⟩ = some (.string N) ∧ V.cell? ⟨p, 1, none⟩ = some (.int .i64 xk) ∧ V.cell? ⟨p, 2, none⟩ = some (.int .i64 (xn : Int)) ∧ V.cell? ⟨p, 3, none⟩ = some (.bool xa) ∧ V.cell? ⟨p, 4, none⟩ = some (.bool xb) ∧ V.cell? ⟨r, 0, none⟩ = some (.string N) ∧ V.cell? ⟨r, 1, none⟩ = some (.int .i64 xk) ∧ V.cell? ⟨r, 2, none⟩ = some (.int .i64 (xn : Int)) ∧ V.cell? ⟨r, 3, none⟩ = some (.bool xa) ∧ V.cell? ⟨r, 4, none⟩ = some (.bool xb))) (i := 23) (oi := ?_) (v := undef) ?_ ?_ ?_ ?_ ?_ (Or.inr ⟨?_, rfl⟩) hHeld ?_; rotate_left 1; (· simp only [List.getElem?_toArray, List.getElem?_cons_succ, List.getElem?_cons_zero] <;> rfl); (· kernel_rfl); (· kernel_rfl); (· kernel_rfl); (· exact fun _ _ _ h => h); (· rfl))
      try simp only [Act.put, List.setIfInBounds_toArray, List.set_cons_zero, List.set_cons_succ]
      first | (refine wpAnyH_take (S := (fun V => V.cell? ⟨p, 0, none⟩ = some (.string N) ∧ V.cell? ⟨p, 1, none⟩ = some (.int .i64 xk) ∧ V.cell? ⟨p, 2, none⟩ = some (.int .i64 (xn : Int)) ∧ V.cell? ⟨p, 3, none⟩ = some (.bool xa) ∧ V.cell? ⟨p, 4, none⟩ = some (.bool xb) ∧ V.cell? ⟨r, 0, none⟩ = some (.string N) ∧ V.cell? ⟨r, 1, none⟩ = some (.int .i64 xk) ∧ V.cell? ⟨r, 2, none⟩ = some (.int .i64 (xn : Int)) ∧ V.cell? ⟨r, 3, none⟩ = some (.bool xa) ∧ V.cell? ⟨r, 4, none⟩ = some (.bool xb))) (i := 24) (oi := ?_) (v := ?_) ?_ ?_ ?_ ?_ ?_ (Or.inl ⟨?_, ?_⟩) hHeld ?_; rotate_left 2; (· simp only [List.getElem?_toArray, List.getElem?_cons_succ, List.getElem?_cons_zero] <;> rfl); (· kernel_rfl); (· kernel_rfl); (· kernel_rfl); (· exact fun _ _ _ h => h); (· rfl); (· intro wS hSw; (try dsimp only [] at hSw); go_simp; first | done | with_reducible rfl)) | (refine wpAnyH_take (S := (fun V => V.cell? ⟨p, 0, none⟩ = some (.string N) ∧ V.cell? ⟨p, 1, none⟩ = some (.int .i64 xk) ∧ V.cell? ⟨p, 2, none⟩ = some (.int .i64 (xn : Int)) ∧ V.cell? ⟨p, 3, none⟩ = some (.bool xa) ∧ V.cell? ⟨p, 4, none⟩ = some (.bool xb) ∧ V.cell? ⟨r, 0, none⟩ = some (.string N) ∧ V.cell? ⟨r, 1, none⟩ = some (.int .i64 xk) ∧ V.cell? ⟨r, 2, none⟩ = some (.int .i64 (xn : Int)) ∧ V.cell? ⟨r, 3, none⟩ = some (.bool xa) ∧ V.cell? ⟨r, 4, none⟩ = some (.bool xb))) (i := 24) (oi := ?_) (v := undef) ?_ ?_ ?_ ?_ ?_ (Or.inr ⟨?_, rfl⟩) hHeld ?_; rotate_left 1; (· simp only [List.getElem?_toArray, List.getElem?_cons_succ, List.getElem?_cons_zero] <;> rfl); (· kernel_rfl); (· kernel_rfl); (· kernel_rfl); (· exact fun _ _ _ h => h); (· rfl))
      try simp only [Act.put, List.setIfInBounds_toArray, List.set_cons_zero, List.set_cons_succ]
      first | (refine wpAnyH_take (S := (fun V => V.cell? ⟨p, 0, none⟩ = some (.string N) ∧ V.cell? ⟨p, 1, none⟩ = some (.int .i64 xk) ∧ V.cell? ⟨p, 2, none⟩ = some (.int .i64 (xn : Int)) ∧ V.cell? ⟨p, 3, none⟩ = some (.bool xa) ∧ V.cell? ⟨p, 4, none⟩ = some (.bool xb) ∧ V.cell? ⟨r, 0, none⟩ = some (.string N) ∧ V.cell? ⟨r, 1, none⟩ = some (.int .i64 xk) ∧ V.cell? ⟨r, 2, none⟩ = some (.int .i64 (xn : Int)) ∧ V.cell? ⟨r, 3, none⟩ = some (.bool xa) ∧ V.cell? ⟨r, 4, none⟩ = some (.bool xb))) (i := 25) (oi := ?_) (v := ?_) ?_ ?_ ?_ ?_ ?_ (Or.inl ⟨?_, ?_⟩) hHeld ?_; rotate_left 2; (· simp only [List.getElem?_toArray, List.getElem?_cons_succ, List.getElem?_cons_zero] <;> rfl); (· kernel_rfl); (· kernel_rfl); (· kernel_rfl); (· exact fun _ _ _ h => h); (· rfl); (· intro wS hSw; (try dsimp only [] at hSw); go_simp; first | done | with_reducible rfl)) | (refine wpAnyH_take (S := (fun V => V.cell? ⟨p, 0, none⟩ = some (.string N) ∧ V.cell? ⟨p, 1, none⟩ = some (.int .i64 xk) ∧ V.cell? ⟨p, 2, none⟩ = some (.int .i64 (xn : Int)) ∧ V.cell? ⟨p, 3, none⟩ = some (.bool xa) ∧ V.cell? ⟨p, 4, none⟩ = some (.bool xb) ∧ V.cell? ⟨r, 0, none⟩ = some (.string N) ∧ V.cell? ⟨r, 1, none⟩ = some (.int .i64 xk) ∧ V.cell? ⟨r, 2, none⟩ = some (.int .i64 (xn : Int)) ∧ V.cell? ⟨r, 3, none⟩ = some (.bool xa) ∧ V.cell? ⟨r, 4, none⟩ = some (.bool xb))) (i := 25) (oi := ?_) (v := undef) ?_ ?_ ?_ ?_ ?_ (Or.inr ⟨?_, rfl⟩) hHeld ?_; rotate_left 1; (· simp only [List.getElem?_toArray, List.getElem?_cons_succ, List.getElem?_cons_zero] <;> rfl); (· kernel_rfl); (· kernel_rfl); (· kernel_rfl); (· exact fun _ _ _ h => h); (· rfl))
      try simp only [Act.put, List.setIfInBounds_toArray, List.set_cons_zero, List.set_cons_succ]
      first | (refine wpAnyH_take (S := (fun V => V.cell? ⟨p, 0, none⟩ = some (.string N) ∧ V.cell? ⟨p, 1, none⟩ = some (.int .i64 xk) ∧ V.cell? ⟨p, 2, none⟩ = some (.int .i64 (xn : Int)) ∧ V.cell? ⟨p, 3, none⟩ = some (.bool xa) ∧ V.cell? ⟨p, 4, none⟩ = some (.bool xb) ∧ V.cell? ⟨r, 0, none⟩ = some (.string N) ∧ V.cell? ⟨r, 1, none⟩ = some (.int .i64 xk) ∧ V.cell? ⟨r, 2, none⟩ = some (.int .i64 (xn : Int)) ∧ V.cell? ⟨r, 3, none⟩ = some (.bool xa) ∧ V.cell? ⟨r, 4, none⟩ = some (.bool xb))) (i := 26) (oi := ?_) (v := ?_) ?_ ?_ ?_ ?_ ?_ (Or.inl ⟨?_, ?_⟩) hHeld ?_; rotate_left 2; (· simp only [List.getElem?_toArray, List.getElem?_cons_succ, List.getElem?_cons_zero] <;> rfl); (· kernel_rfl); (· kernel_rfl); (· kernel_rfl); (· exact fun _ _ _ h => h); (· rfl); (· intro wS hSw; (try dsimp only [] at hSw); go_simp; first | done | with_reducible rfl)) | (refine wpAnyH_take (S := (fun V => V.cell? ⟨p, 0, none⟩ = some (.string N) ∧ V.cell? ⟨p, 1, none⟩ = some (.int .i64 xk) ∧ V.cell? ⟨p, 2, none⟩ = some (.int .i64 (xn : Int)) ∧ V.cell? ⟨p, 3, none⟩ = some (.bool xa) ∧ V.cell? ⟨p, 4, none⟩ = some (.bool xb) ∧ V.cell? ⟨r, 0, none⟩ = some (.string N) ∧ V.cell? ⟨r, 1, none⟩ = some (.int .i64 xk) ∧ V.cell? ⟨r, 2, none⟩ = some (.int .i64 (xn : Int)) ∧ V.cell? ⟨r, 3, none⟩ = some (.bool xa) ∧ V.cell? ⟨r, 4, none⟩ = some (.bool xb))) (i := 26) (oi := ?_) (v := undef) ?_ ?_ ?_ ?_ ?_ (Or.inr ⟨?_, rfl⟩) hHeld ?_; rotate_left 1; (· simp only [List.getElem?_toArray, List.getElem?_cons_succ, List.getElem?_cons_zero] <;> rfl); (· kernel_rfl); (· kernel_rfl); (· kernel_rfl); (· exact fun _ _ _ h => h); (· rfl))
      try simp only [Act.put, List.setIfInBounds_toArray, List.set_cons_zero, List.set_cons_succ]
      (refine wpAnyH_take (S := (fun V => V.cell? ⟨p, 0, none⟩ = some (.string N) ∧ V.cell? ⟨p, 1, none⟩ = some (.int .i64 xk) ∧ V.cell? ⟨p, 2, none⟩ = some (.int .i64 (xn : Int)) ∧ V.cell? ⟨p, 3, none⟩ = some (.bool xa) ∧ V.cell? ⟨p, 4, none⟩ = some (.bool xb) ∧ V.cell? ⟨r, 0, none⟩ = some (.string N) ∧ V.cell? ⟨r, 1, none⟩ = some (.int .i64 xk) ∧ V.cell? ⟨r, 2, none⟩ = some (.int .i64 (xn : Int)) ∧ V.cell? ⟨r, 3, none⟩ = some (.bool xa) ∧ V.cell? ⟨r, 4, none⟩ = some (.bool xb))) (i := 27) (oi := ?_) (v := ?_) ?_ ?_ ?_ ?_ ?_ (Or.inl ⟨?_, ?_⟩) hHeld ?_; rotate_left 2; (· simp only [List.getElem?_toArray, List.getElem?_cons_succ, List.getElem?_cons_zero] <;> rfl); (· kernel_rfl); (· kernel_rfl); (· kernel_rfl); (· exact fun _ _ _ h => h); (· rfl); (· intro wS hSw; (try dsimp only [] at hSw); go_simp; first | done | with_reducible rfl))
      try simp only [Act.put, List.setIfInBounds_toArray, List.set_cons_zero, List.set_cons_succ]
      refine wpAnyH_done (by kernel_rfl) ?_ _
      have M7 := Lib.hid (M6.out.drew.trans m7)
      clear m7
      obtain ⟨qt, hqt, hqt2, hqt3, hqt4⟩ := cutN_at 20 T
      replace hqt : min (T.size : Int) 20 = (qt : Int) := hqt
      have htl := cutN_len 20 T
      obtain ⟨Sy, yk, yn, ya, yb, yo, hf⟩ := fiV_ex (findT (foldL (X ++ cutN 20 T)))
      have hnlX := HL.out
      have hcond : T.size = 0 ∨ yo = false ∨ ¬ Sy = N := by
        by_cases h0 : T.size = 0
        · exact Or.inl h0
        · refine Or.inr ?_
          have hne : cutN 20 T ≠ [] := fun e => by
            rw [e] at hqt4
            have : qt = 0 := hqt4
            omega
          cases ho : findT (foldL (X ++ cutN 20 T)) with
          | none =>
            rw [ho] at hf
            have := (Array.mk.inj (Value.tuple.inj hf)).symm
            exact Or.inl (by simpa using (List.cons.inj (List.cons.inj this).2).1)
          | some y =>
            rw [ho] at hf
            have h1 := findT_more hne ho
            have := (Array.mk.inj (Value.tuple.inj hf)).symm
            have h2 := (List.cons.inj this).1
            have h3 := Array.mk.inj (Value.agg.inj h2)
            have h4 : Sy = str y.s := by simpa using (List.cons.inj h3).1
            refine Or.inr fun e => h1 ?_
            rw [h4, HN.out.1] at e
            exact str_inj e
      have FY : ∀ W, Calls Try.prog 8 #[.string (N ++ T.extract 0 qt)] W fun e w' => e = .returned (.tuple #[.agg #[.string Sy, .int .i64 yk, .int .i64 yn, .bool ya, .bool yb], .bool yo]) ∧ Mod [] W w' := fun W => by
        have := find_calls (X ++ cutN 20 T) (by rw [List.length_append]; omega) W
        rw [hf, ← str_append, ← HN.out.1, ← hqt3] at this
        exact this
      have hTe : (T.extract 0 qt).size ≤ 20 := by rw [hqt3, str_size]; exact htl
      obtain ⟨E, hE⟩ : ∃ E, E = T.extract 0 qt := ⟨_, rfl⟩
      rw [← hE] at hTe FY
      have hext : T.extract 0 qt = E := hE.symm
      have hadd : ∀ W, (Op.stringOp .add N E).run Try.prog W = .ok (.string (N ++ E)) W := fun W => run_string_add_sum W N E (by omega)
      obtain ⟨NE, hNE⟩ : ∃ NE, NE = N ++ E := ⟨_, rfl⟩
      rw [← hNE] at FY
      simp only [← hNE] at hadd
      have FY := Lib.hid FY
      have HCO := Lib.hid hcond
      clear hf hcond hqt3 hqt4 htl hnlX hE hNE hTe
      go_wp2_with fail
      go_loopw [15, 102] (fun v y wr => ∃ j : Nat, v = .int .i64 (cntS X j : Int) ∧ y = .int .i64 (j : Int) ∧ j ≤ 180 ∧ RowKit.Hid (Mod [] w3 wr)) (fun _ y _ => 181 - (intOf y).toNat)
      case atStart => exact ⟨0, rfl, rfl, by omega, M7⟩
      case round =>
        obtain ⟨j, rfl, rfl, hj, hi⟩ := hrel
        have h2 := hi.out
        by_cases hlt : j < 180
        · have hjI : (j : Int) < 180 := by omega
          have hjX : j < tab.length := by rw [tab_len]; exact hlt
          obtain ⟨d2, hd2, g0, g1, g2, g3, g4⟩ := (T2.out.far (M3.out.trans h2)) j hjX
          injection hd2 with hd2
          injection hd2 with hd2 _ _
          subst hd2
          have hstep := cntS_step X j hjX
          generalize tab[j] = y at *
          have hcl := cntS_le X j
          obtain ⟨c, hc⟩ : ∃ c, c = cntS X j := ⟨_, rfl⟩
          rw [← hc] at hstep hcl ⊢
          obtain ⟨N2, hN2⟩ : ∃ N, N = str y.s := ⟨_, rfl⟩
          rw [← hN2] at g0
          obtain ⟨y1, hy1⟩ : ∃ z, z = y.k := ⟨_, rfl⟩
          obtain ⟨y2, hy2⟩ : ∃ z, z = y.n := ⟨_, rfl⟩
          obtain ⟨y3, hy3⟩ : ∃ z, z = y.now := ⟨_, rfl⟩
          obtain ⟨y4, hy4⟩ : ∃ z, z = y.only := ⟨_, rfl⟩
          rw [← hy1] at g1
          rw [← hy2] at g2
          rw [← hy3] at g3
          rw [← hy4] at g4
          have m3 : Mod [] wr (wr.alloc (.cells #[.string N2, .int .i64 y1, .int .i64 (y2 : Int), .bool y3, .bool y4] 24)) := (Mod.refl [] wr).alloc _
          have M5 := Lib.hid (h2.trans m3)
          have b5 := Lib.hid (Bx5.new wr (.string N2) (.int .i64 y1) (.int .i64 (y2 : Int)) (.bool y3) (.bool y4) 24)
          have HN2 := Lib.hid hN2
          have HST := Lib.hid hstep
          clear hi h2 hy1 hy2 hy3 hy4 hc m3 hN2 hstep
          go_upto_region 20 with fail
          generalize wr.alloc (.cells #[.string N2, .int .i64 y1, .int .i64 (y2 : Int), .bool y3, .bool y4] 24) = w5 at *
          obtain ⟨z, hz⟩ : ∃ z, z = wr.heap.size := ⟨_, rfl⟩
          rw [← hz] at b5 ⊢
          clear hz g0 g1 g2 g3 g4
          obtain ⟨g0, _, _, _, _, _, _⟩ := b5.out
          obtain ⟨p0, _, _, _, _, _, _⟩ := P3.out.far M5.out
          clear b5
          by_cases e1 : y.s = X
          · have f1 : (N2.toList == N.toList) = true := by rw [HN2.out, HN.out.1, e1]; exact str_eql X
            have hw1 : wrap64 ((c : Int) + 1) = ((c + 1 : Nat) : Int) := by rw [IntWalk.wrap64_in _ (by omega)]; rfl
            have HC := Lib.hid (show c + 1 = cntS X (j + 1) by rw [HST.out, if_pos e1])
            clear e1
            go_wp2_with fail
            go_roundw
            case rel => exact ⟨j + 1, by rw [hw1, ← HC.out], by go_num, by omega, M5⟩
            case measure => simp [intOf]; omega
          · have f1 : (N2.toList == N.toList) = false := by rw [HN2.out, HN.out.1]; exact str_nel e1
            have HC := Lib.hid (show c = cntS X (j + 1) by rw [HST.out, if_neg e1, Nat.add_zero])
            clear e1
            go_wp2_with fail
            go_roundw
            case rel => exact ⟨j + 1, by rw [← HC.out], by go_num, by omega, M5⟩
            case measure => simp [intOf]; omega
        · have hjI : ¬ (j : Int) < 180 := by omega
          have e4 : j = 180 := by omega
          subst e4
          rw [HN.out.2.1]
          obtain ⟨p0, _, _, _, _, _, lt0⟩ := P3.out.far h2
          have hM := h2
          have hsz := h2.size
          clear hi h2 hlt
          go_upto_region 23 with fail
          go_cut [18, 19] (fun u v wx => Fnd w3 Sy yk yn ya yb yo u v wx)
          case first =>
            go_region_with (first | (refine (FY.out _).mono ?_; rintro e z1 ⟨rfl, hx⟩; first | (have qq := ((Bx5.new wr (.string ⟨#[]⟩) (.int .i64 0) (.int .i64 0) (.bool false) (.bool false) 24).far (Mod.refl [] _).drew).far hx; have q0 := qq.c0; have q1 := qq.c1; have q2 := qq.c2; have q3 := qq.c3; have q4 := qq.c4; have qf0 := qq.f 0; have qf1 := qq.f 1; have qf2 := qq.f 2; have qf3 := qq.f 3; have qf4 := qq.f 4) | skip) | fail)
            all_goals
              go_wp2_with fail
              go_meet
              first
              | exact ⟨_, rfl, rfl, qq.put _ _ _ _ _, put_mod hsz ((hM.alloc _).drew.trans hx) _ _ _ _ _⟩
              | exact ⟨_, rfl, rfl, Bx5.new _ _ _ _ _ _ _, (hM.drew.trans hx).alloc _⟩
          case rest =>
            obtain ⟨r2, rfl, rfl, b6, m6⟩ := hcut
            obtain ⟨r0, r1, r3, r4, r5, _, _⟩ := b6
            clear p0
            obtain ⟨p0, p1, p2, p3, p4, _, _⟩ := P3.out.far m6
            have MF := Lib.hid ((M2.out.trans M3.out).trans m6)
            by_cases h0 : T.size = 0
            · have e0 : ((T.size : Int) == 0) = true := by rw [beq_iff_eq]; omega
              clear h0 m6
              go_wp2_with fail
              go_ret
              exact ⟨rfl, MF.out⟩
            · have e0 : ((T.size : Int) == 0) = false := by rw [beq_eq_false_iff_ne]; omega
              cases yo with
              | false =>
                clear h0 m6
                go_wp2_with fail
                go_ret
                exact ⟨rfl, MF.out⟩
              | true =>
                have hne : ¬ Sy = N := HCO.out.elim (fun h => absurd h h0) fun h => h.elim (fun h => by cases h) id
                clear h0 m6
                go_wp2_with fail
                go_ret
                exact ⟨rfl, MF.out⟩
end Go.Proofs.Ytgmdagjaigbajaa
