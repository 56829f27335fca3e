/- Layer 9: the program's Find, Mark, Now, New. Condition: the block is such a dictionary (Pd9), names that are looked for have at most 9223372036854775807 bytes. -/
import Derived.Test.YtldnpppbnakcoaaD9R
namespace Go.Proofs.Ytldnpppbnakcoaa
open Go.RowKit
set_option linter.unusedVariables false

theorem PdV.ord {w : World} {p : Nat} {v : Value} {b : Nat} {u : Value} {Z : List (Nat × We)} {D : Di} (h : PdV w p v b u Z D) (j : Nat) (hj : j < D.O.length) : ∃ g cap, u = .slice (some ⟨g, 0, none⟩) D.O.length cap ∧ w.cell? ⟨g, j, none⟩ = some (.int .i64 D.O[j]) := by
  obtain ⟨A, cap, hv, _, hc⟩ := rowD_open h.body.ru
  obtain ⟨g, hb, hcc⟩ := hc j (by omega)
  subst hb
  exact ⟨g, cap, hv, by rw [hcc]; simp [intsV, hj]⟩
set_option maxHeartbeats 4000000 in
theorem pfind_calls {w : World} {p : Nat} {T : List Nat} {D : Di} (h : Pd9 w p T D) (n : List UInt8) (hn : n.length ≤ 9223372036854775807) :
    Calls Try.prog 23 #[PtD p, .string (str n)] w (DTells (resE (findW D.W D.O n)) w) := by
  have HH := Lib.hid h
  obtain ⟨v, b0, u, Z, hv, rfl⟩ := h
  have HV := Lib.hid hv
  obtain ⟨A, cap, rfl, _⟩ := rowD_open hv.body.ru
  obtain ⟨m, hm⟩ : ∃ m, m = D.O.length := ⟨_, rfl⟩
  have hd := hv.do_
  have h2 := hv.c3
  rw [← hm] at hd h2
  have HM := Lib.hid hm
  have HN := Lib.hid hn
  obtain ⟨X, hX⟩ : ∃ X, X = str n := ⟨_, rfl⟩
  rw [← hX]
  have HX := Lib.hid hX
  have hmI : (m : Int) ≤ 8 := by omega
  clear hv hm hX hn
  have mA : Mod [] w (w.alloc (.cells #[.string ⟨#[]⟩, .int .i64 0, .bool false] 49)) := (Mod.refl [] w).alloc _
  have k2 := mA.cell (x := ⟨p, 3, none⟩) (by simp) h2
  have MA := Lib.hid mA
  have K0 := Lib.hid (none_calls (HH.out.far mA))
  clear mA h2
  unfold DTells
  go_enter Try.func23, Try.ntmps23
  go_wp2_with fail
  refine (K0.out).mono ?_
  rintro e u1 ⟨rfl, rfl⟩
  go_wp2_with fail
  go_loopw [18] (fun z wr => ∃ k : Nat, z = .int .i64 (k : Int) ∧ k ≤ m ∧ RowKit.Hid (Mod [] (w.alloc (.cells #[.string ⟨#[]⟩, .int .i64 0, .bool false] 49)) wr ∧ ∀ j (hj : j < D.O.length), j < k → inW D.W D.O[j] n = none)) (fun z _ => m - (intOf z).toNat)
  case atStart => exact ⟨0, rfl, by omega, Lib.hid ⟨Mod.refl _ _, fun j hj hk => by omega⟩⟩
  case round =>
    obtain ⟨k, rfl, hkm, hi⟩ := hrel
    have HI := Lib.hid hi.out
    clear hi k2
    by_cases hlt : k < m
    · have hltI : (k : Int) < (m : Int) := by omega
      have hkl : k < D.O.length := by have := HM.out; omega
      have hvr := HV.out.mod (MA.out.trans HI.out.1) (by simp)
      obtain ⟨b, cap', he, hc⟩ := hvr.ord k hkl
      injection he with he1 he2 he3
      subst he1
      have kk := pin_calls (HH.out.far (MA.out.trans HI.out.1)) D.O[k] n HN.out
      rw [← HX.out] at kk
      obtain ⟨l, hl⟩ : ∃ l, l = D.O[k] := ⟨_, rfl⟩
      rw [← hl] at hc kk
      have HLL := Lib.hid hl
      have K1 := Lib.hid kk
      clear kk hvr he2 he3 hl
      cases hr : inW D.W l n with
      | none =>
        rw [hr] at K1
        have HR := Lib.hid hr
        clear hr
        have K1 := Lib.hid (show Calls Try.prog 29 #[PtD p, .int .i64 l, .string X] wr (DTells (.tuple #[.agg #[.string ⟨#[]⟩, .int .i64 0, .bool false], .bool false]) wr) from K1.out)
        go_wp2_with fail
        refine (K1.out).mono ?_
        rintro e u1 ⟨rfl, m1⟩
        have M1 := Lib.hid ((HI.out.1.trans m1).alloc (.cells #[.string ⟨#[]⟩, .int .i64 0, .bool false] 49))
        clear m1
        go_wp2_with fail
        go_roundw
        case rel => exact ⟨k + 1, by go_num, by omega, Lib.hid ⟨M1.out, fun j hj hk => by
          by_cases e : j = k
          · subst e; rw [← HLL.out]; exact HR.out
          · exact HI.out.2 j hj (by omega)⟩⟩
        case measure => simp [intOf]; omega
      | some a =>
        rw [hr] at K1
        have HR := Lib.hid (show findW D.W D.O n = some a from findW_at D.W D.O n k hkl a (by rw [← HLL.out]; exact hr) fun t ht hk => HI.out.2 t ht hk)
        clear hr
        obtain ⟨N, hN⟩ : ∃ N, N = str a.n := ⟨_, rfl⟩
        obtain ⟨ax, hax⟩ : ∃ ax, ax = a.x := ⟨_, rfl⟩
        obtain ⟨an, han⟩ : ∃ an, an = a.now := ⟨_, rfl⟩
        have hv : resE (some a) = .tuple #[.agg #[.string N, .int .i64 ax, .bool an], .bool true] := by rw [hN, hax, han]; rfl
        rw [hv] at K1
        have HVV := Lib.hid hv
        clear hv hN hax han
        go_wp2_with fail
        refine (K1.out).mono ?_
        rintro e u1 ⟨rfl, m1⟩
        have M1 := Lib.hid ((HI.out.1.trans m1).alloc (.cells #[.string N, .int .i64 ax, .bool an] 49))
        obtain ⟨c0, c1, c2, cf⟩ := E3.new w M1.out
        have f0 := cf 0
        have f1 := cf 1
        have f2 := cf 2
        obtain ⟨r0, r1, r2⟩ := set3 c0 c1 c2 (.string N) (.int .i64 ax) (.bool an)
        have R := Lib.hid (And.intro r0 (And.intro r1 r2))
        clear m1 cf r0 r1 r2
        go_wp2_with fail
        obtain ⟨r0, r1, r2⟩ := R.out
        refine bodyPost_ret (v := .tuple #[.agg #[.string N, .int .i64 ax, .bool an], .bool true]) ?_ rfl ⟨by rw [HR.out, HVV.out], mod_set3 (MA.out.trans M1.out) (Nat.le_refl _) _ _ _⟩
        simp [results, Try.results23, go_sem, r0, r1, r2]
    · have hltI : ¬ (k : Int) < (m : Int) := by omega
      have HNO := Lib.hid (show findW D.W D.O n = none from findW_none fun j hj => HI.out.2 j hj (by have := HM.out; omega))
      obtain ⟨c0, c1, c2, cf⟩ := E3.new w HI.out.1
      have f0 := cf 0
      have f1 := cf 1
      have f2 := cf 2
      obtain ⟨r0, r1, r2⟩ := set3 c0 c1 c2 (.string ⟨#[]⟩) (.int .i64 0) (.bool false)
      have R := Lib.hid (And.intro r0 (And.intro r1 r2))
      clear cf r0 r1 r2
      go_wp2_with fail
      obtain ⟨r0, r1, r2⟩ := R.out
      refine bodyPost_ret (v := resE none) ?_ rfl ⟨by rw [HNO.out], mod_set3 (MA.out.trans HI.out.1) (Nat.le_refl _) _ _ _⟩
      simp [results, Try.results23, go_sem, r0, r1, r2, resE, entV, noneE, str]
theorem pmark_calls {w : World} {p : Nat} {T : List Nat} {D : Di} (h : Pd9 w p T D) : Calls Try.prog 17 #[PtD p] w (DTells (.agg #[.int .i64 (D.W.length : Int), .int .i64 (D.k : Int)]) w) := by
  have HH := Lib.hid h
  obtain ⟨v, b, u, Z, hv, rfl⟩ := h
  obtain ⟨A, cap, rfl, _⟩ := rowD_open hv.body.rv
  have h0 := hv.c0
  have h1 := hv.c2
  have hd := hv.dw
  have hM := Mod.refl [] w
  have hlen : D.W.length = Z.length := by rw [hv.eW]; simp
  rw [hlen]
  obtain ⟨n, hn⟩ : ∃ n, n = Z.length := ⟨_, rfl⟩
  rw [← hn] at h0 hd ⊢
  obtain ⟨k, hk⟩ : ∃ k : Int, k = (D.k : Int) := ⟨_, rfl⟩
  rw [← hk] at h1 ⊢
  have K0 := Lib.hid (none_calls (HH.out.far (hM.alloc (.cells #[.int .i64 0, .int .i64 0] 31))))
  have k0 : (w.alloc (.cells #[.int .i64 0, .int .i64 0] 31)).cell? ⟨p, 0, none⟩ = some (.slice A n cap) := (hM.alloc _).cell (by simp) h0
  have k1 : (w.alloc (.cells #[.int .i64 0, .int .i64 0] 31)).cell? ⟨p, 2, none⟩ = some (.int .i64 k) := (hM.alloc _).cell (by simp) h1
  clear hv hn hk hlen
  unfold DTells
  go_enter Try.func17, Try.ntmps17
  go_wp2_with fail
  refine (K0.out).mono ?_
  rintro e u1 ⟨rfl, rfl⟩
  go_upto_region 3 with fail
  go_region
  all_goals
    have r0 := (MapKept.heap_alloc w (.cells #[.int .i64 (n : Int), .int .i64 k] 31)).1
    have r1 : (w.alloc (.cells #[.int .i64 (n : Int), .int .i64 k] 31)).cell? ⟨w.heap.size, 0, none⟩ = some (.int .i64 (n : Int)) := by simp only [World.cell?, r0]; rfl
    have r2 : (w.alloc (.cells #[.int .i64 (n : Int), .int .i64 k] 31)).cell? ⟨w.heap.size, 1, none⟩ = some (.int .i64 k) := by simp only [World.cell?, r0]; rfl
    go_wp2_with fail
    refine bodyPost_ret (v := .agg #[.int .i64 (n : Int), .int .i64 k]) ?_ rfl ⟨rfl, (hM.alloc _).drew⟩
    simp [results, Try.results17, go_sem, r1, r2]
theorem pnew_calls (w : World) : Calls Try.prog 10 #[] w fun e w' => ∃ p T, e = .returned (PtD p) ∧ Pd9 w' p T ⟨[], 1, [1], 1⟩ ∧ Mod [] w w' ∧ ∀ x ∈ T, w.heap.size ≤ x := by
  have hmm := @run_makeMap Try.prog
  go_enter Try.func10, Try.ntmps10
  go_wp2
  go_ret
  have hs := size_allocD w (.map #[] 0)
  have hs2 := size_allocD (w.alloc (.map #[] 0)) (.cells #[.int .i64 1] 3)
  have m1 : Mod [] w (w.alloc (.map #[] 0)) := (Mod.refl [] w).alloc _
  have m2 : Mod [] (w.alloc (.map #[] 0)) ((w.alloc (.map #[] 0)).alloc (.cells #[.int .i64 1] 3)) := (Mod.refl [] _).alloc _
  have hr := World.ownsRow_lit (base := 0) (e := 3) (size := 1) (w.alloc (.map #[] 0)) #[.int .i64 1] 1 (Nat.zero_le _) (by decide) rfl
  rw [hs] at hr hs2
  have m3 : Mod [] ((w.alloc (.map #[] 0)).alloc (.cells #[.int .i64 1] 3)) (((w.alloc (.map #[] 0)).alloc (.cells #[.int .i64 1] 3)).alloc (.cells #[.slice none 0 0, .map (some w.heap.size), .int .i64 1, .slice (some ⟨w.heap.size + 1, 0, none⟩) 1 1, .int .i64 1] 69)) := (Mod.refl [] _).alloc _
  have hb := (MapKept.heap_alloc ((w.alloc (.map #[] 0)).alloc (.cells #[.int .i64 1] 3)) (.cells #[.slice none 0 0, .map (some w.heap.size), .int .i64 1, .slice (some ⟨w.heap.size + 1, 0, none⟩) 1 1, .int .i64 1] 69)).1
  rw [hs2] at hb
  refine ⟨w.heap.size + 1 + 1, _, rfl, ⟨.slice none 0 0, w.heap.size, .slice (some ⟨w.heap.size + 1, 0, none⟩) 1 1, [], ⟨?_, ?_, ?_, ?_, ?_, fun i => ?_, ?_, ⟨World.ownsRow_nil _ _ _ _, ((MapP.new w).mod (m2.trans m3) (by simp)).congr fun n => (headZ_nil n).symm, rowD_mod hr m3 (by simp), trivial⟩, by simp [tailP, Value.ownBlock]; omega, rfl, by simp, by simp, by simp, by simp, by simp⟩, rfl⟩, (m1.trans m2).trans m3, ?_⟩
  · simp only [World.cell?, hb]; rfl
  · simp only [World.cell?, hb]; rfl
  · simp only [World.cell?, hb]; rfl
  · simp only [World.cell?, hb]; rfl
  · simp only [World.cell?, hb]; rfl
  · simp only [World.frozen?, hb]; rfl
  · rw [size_allocD, hs2]; omega
  · intro x hx
    simp [tailP, Value.ownBlock] at hx
    omega
end Go.Proofs.Ytldnpppbnakcoaa
