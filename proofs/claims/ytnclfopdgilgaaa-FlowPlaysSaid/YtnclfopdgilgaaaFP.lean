/- Layer 11 (package flow): Do, where what the part does to a builder is known. Condition: the block is a builder (Bl), of at most 1000 instructions and parts. -/
import Derived.Test.YtnclfopdgilgaaaFO
import Derived.Laws.EntriesVeiled
namespace Go.Proofs.Ytnclfopdgilgaaa
open Go.RowKit
set_option linter.unusedVariables false

theorem lay_bl {w : World} {p : Nat} {S : List Nat} {B : Bd} (h : Bl w p S B) (hl : B.L.length ≤ 1000) (x : Xi) :
    Calls Try.prog 26 #[Pt p, insV x] w fun e w' => (∃ v, e = .returned v) ∧ ∃ S', Bl w' p S' (layB x B) ∧ Turn S S' w w' := by
  obtain ⟨vc, vo, O, h, h2, rfl⟩ := h
  refine (lay_calls h hl x).mono ?_
  rintro e w' ⟨hv, vc', h3, h4⟩
  exact ⟨hv, _, ⟨vc', vo, O, h3, h2, rfl⟩, h4⟩
theorem zero_row (W : World) : (zeroValue 66).run Try.prog W = .ok (.agg #[.slice none 0 0, .int .i64 0, .int .u8 0, .bool false, .nilFunc]) W := by kernel_rfl
/-- What f answers, and what is then. -/
def Gives (p : Nat) (S : List Nat) (w : World) (R : Int × Bd) (e : Ending) (w' : World) : Prop := e = .returned (.int .i64 R.1) ∧ ∃ S', Bl w' p S' R.2 ∧ Turn S S' w w'
set_option maxHeartbeats 4000000 in
set_option maxRecDepth 100000 in
theorem do_none {w : World} {p : Nat} {S : List Nat} {B : Bd} (h : Bl w p S B) (n : Int) (hn : rowI n = none) : Calls Try.prog 15 #[Pt p, .int .i64 n] w (Gives p S w (1, B)) := by
  have H1 := Lib.hid (rows_calls w p)
  have HH := Lib.hid h
  have HN := Lib.hid hn
  clear h hn
  go_enter Try.func15, Try.ntmps15
  go_wp2_with fail
  refine (H1.out).mono ?_
  rintro e w1 ⟨M, rfl, ⟨f, hf, hf1, _⟩, hm1⟩
  have hlook := hf.look (P := Try.prog) Try.underlying68 Try.underlying3 (zero_row w1) n
  rw [hf1 n HN.out] at hlook
  replace hlook : (Instr.lookup 68 (.map (some M)) (.int .i64 n) true).run Try.prog w1 = .ok (.tuple #[.agg #[.slice none 0 0, .int .i64 0, .int .u8 0, .bool false, .nilFunc], .bool false]) w1 := hlook
  have HM := Lib.hid (hm1.alloc (.cells #[.slice none 0 0, .int .i64 0, .int .u8 0, .bool false, .nilFunc] 66))
  clear hf hf1 hm1 H1
  go_wp2_with fail
  go_ret
  exact ⟨rfl, S, HH.out.far HM.out, (Turn.refl S w).far HM.out⟩
set_option maxHeartbeats 8000000 in
set_option maxRecDepth 100000 in
theorem do_row {w : World} {p : Nat} {S : List Nat} {B : Bd} (h : Bl w p S B) (hd : B.P.length ≤ 1000) (hl : B.L.length ≤ 1000) (n : Int) (r : Rw) (hn : rowI n = some r) (hla : r.lays < 256) (hks : r.needs.length ≤ 1000)
    (hen : ∀ W, (callFunc (actF r.act) #[Pt p]).run Try.prog W = .ok (.enter (actF r.act) #[Pt p]) W)
    (hact : fitsB r B.P = true → roomB r B = true → Acts (actF r.act) (if r.lays = 0 then B else layB ⟨r.lays, 0, 0⟩ B) (actB r.act (if r.lays = 0 then B else layB ⟨r.lays, 0, 0⟩ B))) :
    Calls Try.prog 15 #[Pt p, .int .i64 n] w (Gives p S w (doB n B)) := by
  obtain ⟨ks, wi, la, op, a⟩ := r
  have hdo : doB n B = if fitsB ⟨ks, wi, la, op, a⟩ B.P then (if roomB ⟨ks, wi, la, op, a⟩ B then (0, actB a (if la = 0 then B else layB ⟨la, 0, 0⟩ B)) else (-8, B)) else (-22, B) := by
    unfold doB
    rw [hn]
  obtain ⟨R, hR⟩ : ∃ R, R = doB n B := ⟨_, rfl⟩
  rw [← hR]
  rw [hdo] at hR
  have HRES := Lib.hid hR
  clear hR
  dsimp only at hla hks hen hact
  obtain ⟨F, hF⟩ : ∃ F, F = actF a := ⟨_, rfl⟩
  rw [← hF] at hen hact
  have H1 := Lib.hid (rows_calls w p)
  have HH := Lib.hid h
  have HN := Lib.hid (And.intro hn (And.intro hF (And.intro hla (And.intro hks (And.intro hd hl)))))
  have HACT := Lib.hid hact
  have HEN := Lib.hid hen
  clear h hn hF hact hen hdo hd hl hks
  go_enter Try.func15, Try.ntmps15
  go_wp2_with fail
  refine (H1.out).mono ?_
  rintro e w1 ⟨M, rfl, ⟨f, hf, _, hf2⟩, hm1⟩
  have hlook := hf.look (P := Try.prog) Try.underlying68 Try.underlying3 (zero_row w1) n
  obtain ⟨nv, hnv, hkd⟩ := hf2 n _ HN.out.1
  rw [hnv] at hlook
  dsimp only at hkd
  rw [← HN.out.2.1] at hlook
  obtain ⟨Ak, ck, e3, _⟩ := id hkd
  obtain ⟨m, hm⟩ : ∃ m, m = ks.length := ⟨_, rfl⟩
  rw [← hm] at e3
  subst e3
  replace hlook : (Instr.lookup 68 (.map (some M)) (.int .i64 n) true).run Try.prog w1 = .ok (.tuple #[rowV (.slice Ak m ck) wi la op F p, .bool true]) w1 := hlook
  have ma := (Mod.refl [] w1).alloc (.cells #[.slice Ak m ck, .int .i64 (wi : Int), .int .u8 (la : Int), .bool op, .func (.func F) #[Pt p] #[]] 66)
  obtain ⟨b0, b1, b2, b3, b4⟩ := five_at (MapKept.heap_alloc w1 (.cells #[.slice Ak m ck, .int .i64 (wi : Int), .int .u8 (la : Int), .bool op, .func (.func F) #[Pt p] #[]] 66)).1
  have HM := Lib.hid (hm1.trans ma)
  have HB := Lib.hid (And.intro b0 (And.intro b1 (And.intro b2 (And.intro b3 b4))))
  have hb := HH.out.far HM.out
  obtain ⟨vc, vo, O, hv, hP, hS⟩ := hb
  have H2 := Lib.hid (matches_calls hv (by rw [← List.length_map (f := Prod.fst), ← hP]; exact HN.out.2.2.2.2.1) (hkd.far ma) HN.out.2.2.2.1 wi la op F a)
  have H3 := Lib.hid (fun W (k : Mod [] (w1.alloc (.cells #[.slice Ak m ck, .int .i64 (wi : Int), .int .u8 (la : Int), .bool op, .func (.func F) #[Pt p] #[]] 66)) W) => room_calls (hv.far k) (by rw [← List.length_map (f := Prod.fst), ← hP]; exact HN.out.2.2.2.2.1) HN.out.2.2.2.2.2 Ak m ck ks wi la hla op F a)
  rw [← hP] at H2 H3
  have HS := Lib.hid hS
  obtain ⟨r1, hr1⟩ : ∃ r1, r1 = fitsB ⟨ks, wi, la, op, a⟩ B.P := ⟨_, rfl⟩
  obtain ⟨r2, hr2⟩ : ∃ r2, r2 = roomB ⟨ks, wi, la, op, a⟩ B := ⟨_, rfl⟩
  have HR := Lib.hid (And.intro hr1 hr2)
  rw [← hr1] at H2
  have hr2' : roomB ⟨ks, wi, la, op, a⟩ ⟨B.L, B.P⟩ = r2 := hr2.symm
  rw [hr2'] at H3
  have HRES2 := Lib.hid (show R = if r1 then (if r2 then (0, actB a (if la = 0 then B else layB ⟨la, 0, 0⟩ B)) else (-8, B)) else (-22, B) by rw [HRES.out, hr1, hr2])
  have HW1 := Lib.hid hm1.size
  clear hf hf2 hnv hkd hm1 ma H1 hv hP hS hr1 hr2 hr2' hm
  go_wp2_with fail
  refine (H2.out).mono ?_
  rintro e w2 ⟨rfl, hm2⟩
  have c0 := hm2.cell (by simp) HB.out.1
  have c1 := hm2.cell (by simp) HB.out.2.1
  have c2 := hm2.cell (by simp) HB.out.2.2.1
  have c3 := hm2.cell (by simp) HB.out.2.2.2.1
  have c4 := hm2.cell (by simp) HB.out.2.2.2.2
  have HM2 := Lib.hid hm2
  clear hlook b0 b1 b2 b3 b4 hm2 H2
  cases r1 with
  | false =>
    go_wp2_with fail
    go_ret
    have e5 : R = (-22, B) := HRES2.out
    exact ⟨by rw [e5]; rfl, S, by rw [e5]; exact HH.out.far (HM.out.trans HM2.out), (Turn.refl S w).far (HM.out.trans HM2.out)⟩
  | true =>
    go_wp2_with fail
    refine (H3.out _ HM2.out).mono ?_
    rintro e w3 ⟨rfl, hm3⟩
    have d2 := hm3.cell (by simp) c2
    have d4 := hm3.cell (by simp) c4
    have hD4 := Lib.hid d4
    have HM3 := Lib.hid (HM.out.trans (HM2.out.trans hm3))
    clear c0 c1 c2 c3 c4 hm3 H3
    cases r2 with
    | false =>
      go_wp2_with fail
      go_ret
      have e5 : R = (-8, B) := HRES2.out
      exact ⟨by rw [e5]; rfl, S, by rw [e5]; exact HH.out.far HM3.out, (Turn.refl S w).far HM3.out⟩
    | true =>
      have hA := HACT.out HR.out.1.symm HR.out.2.symm
      have hbox : w1.heap.size < w3.heap.size := World.block_lt_of_cell? _ _ d2
      by_cases h0 : la = 0
      · have q1 : ((la : Int) != 0) = false := by rw [h0]; rfl
        rw [if_pos h0] at hA
        have HA := Lib.hid (hA w3 p S (HH.out.far HM3.out))
        have HEN2 := HEN.out
        have HZ := Lib.hid h0
        clear hA h0
        go_wp2_with fail
        refine (HA.out).mono ?_
        rintro e w4 ⟨⟨v, rfl⟩, S', hB4, hT4⟩
        have HE := Lib.hid (And.intro hB4 hT4)
        clear hB4 hT4
        go_wp2_with fail
        go_ret
        have e5 : R = (0, actB a B) := by rw [HRES2.out, HZ.out]; rfl
        exact ⟨by rw [e5]; rfl, S', by rw [e5]; exact HE.out.1, HE.out.2.ahead HM3.out⟩
      · have q1 : ((la : Int) != 0) = true := by rw [bne_iff_ne]; omega
        rw [if_neg h0] at hA
        have HA := Lib.hid hA
        have HL := Lib.hid (lay_bl (HH.out.far HM3.out) HN.out.2.2.2.2.2 ⟨la, 0, 0⟩)
        have HEN2 := HEN.out
        have HZ := Lib.hid h0
        clear hA h0
        go_wp2_with fail
        refine (HL.out).mono ?_
        rintro e w4 ⟨⟨v, rfl⟩, S4, hB4, hT4⟩
        have hnS : w1.heap.size ∉ S := fun hx => by
          have h8 := HH.out.lt _ hx
          have h9 := HM.out.size
          rw [size_allocI] at h9
          have h7 := HW1.out
          omega
        have f4 := hT4.1.cell (x := ⟨w1.heap.size, 4, none⟩) hnS d4
        have HA2 := Lib.hid (HA.out w4 p S4 hB4)
        have HT4 := Lib.hid hT4
        clear hB4 hT4 HA HL hnS d2 d4
        go_wp2_with fail
        refine (HA2.out).mono ?_
        rintro e w5 ⟨⟨v, rfl⟩, S5, hB5, hT5⟩
        have HE := Lib.hid (And.intro hB5 hT5)
        clear hB5 hT5
        go_wp2_with fail
        go_ret
        have e5 : R = (0, actB a (layB ⟨la, 0, 0⟩ B)) := by
          rw [HRES2.out, if_neg HZ.out]
          rfl
        exact ⟨by rw [e5]; rfl, S5, by rw [e5]; exact HE.out.1, (HT4.out.trans HE.out.2).ahead HM3.out⟩
end Go.Proofs.Ytnclfopdgilgaaa
