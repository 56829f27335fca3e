/- Layer 10: the document's May. Condition: there are at most 1000000 instructions. -/
import Derived.Test.YtnclfopdgilgaaaIM
import Derived.Test.YtnclfopdgilgaaaIH
namespace Go.Proofs.Ytnclfopdgilgaaa
open Go.RowKit
set_option linter.unusedVariables false

/-- What is so of the instructions ahead of i. -/
def OkTo (L : List Xi) (o : List Int) (words : Int) (i : Nat) : Prop := ∀ j x, j < i → L[j]? = some x → fitX (locX L) L.length words j x = true ∧ (x.op = 15 → j + 1 = L.length → ∀ v, o[j]? = some v → v ≤ 0)
theorem OkTo.next {L : List Xi} {o : List Int} {words : Int} {i : Nat} {x : Xi} (h : OkTo L o words i) (hx : L[i]? = some x) (h1 : fitX (locX L) L.length words i x = true) (h2 : x.op = 15 → i + 1 = L.length → ∀ v, o[i]? = some v → v ≤ 0) : OkTo L o words (i + 1) := fun j y hj hy => by
  by_cases e : j = i
  · subst e
    rw [hx] at hy
    injection hy with hy
    subst hy
    exact ⟨h1, h2⟩
  · exact h j y (by omega) hy
theorem loc_small {L : List Xi} {o : List Int} {words : Int} {i : Nat} (h : OkTo L o words i) (hi : 0 < i) (hL : 0 < L.length) : 0 ≤ locX L ∧ locX L ≤ 16 := by
  cases L with
  | nil => simp at hL
  | cons x r =>
    have h1 := (h 0 x hi rfl).1
    simp only [locX]
    by_cases e : x.op = 12
    · rw [if_pos e]
      unfold fitX at h1
      simp only [Bool.and_eq_true, decide_eq_true_eq] at h1
      rw [e] at h1
      have h2 := h1.1.1.2
      have : kindX 12 = 3 := rfl
      rw [this] at h2
      simp only [spanX] at h2
      simp at h2
      omega
    · rw [if_neg e]; omega
theorem fit_parts (loc n words : Int) (i : Nat) (x : Xi) : fitX loc n words i x = true ↔ (1 ≤ x.op ∧ x.op < 16) ∧ ((spanX loc n words (kindX x.op)).1 ≤ x.a ∧ x.a ≤ (spanX loc n words (kindX x.op)).2) ∧ ¬ (x.op = 12 ∧ 0 < i) ∧ (x.op = 1 ∨ x.w = 0) := by
  unfold fitX isOpX
  simp only [Bool.and_eq_true, Bool.or_eq_true, decide_eq_true_eq, Bool.not_eq_true', Bool.and_eq_false_iff, decide_eq_false_iff_not]
  constructor
  · rintro ⟨⟨⟨h1, h2⟩, h3⟩, h4⟩
    exact ⟨h1, h2, fun h => h3.elim (fun k => k h.1) (fun k => k h.2), h4⟩
  · rintro ⟨h1, h2, h3, h4⟩
    exact ⟨⟨⟨h1, h2⟩, Classical.byCases (p := x.op = 12) (fun e => Or.inr fun h => h3 ⟨e, h⟩) Or.inl⟩, h4⟩
theorem lz_same {L : List Xi} {i : Nat} {x : Xi} {lz : Int} (hx : L[i]? = some x) (h : lz = (if i = 0 then 0 else locX L)) (h12 : ¬ x.op = 12) : lz = locX L := by
  by_cases e : i = 0
  · rw [if_pos e] at h
    subst e
    cases L with
    | nil => cases hx
    | cons a r =>
      simp at hx
      subst hx
      simp only [locX]
      rw [if_neg h12]
      exact h
  · rw [if_neg e] at h; exact h
theorem lz_twelve {L : List Xi} {i : Nat} {x : Xi} (hx : L[i]? = some x) (hi : i = 0) (h12 : x.op = 12) : x.a = locX L := by
  subst hi
  cases L with
  | nil => cases hx
  | cons a r =>
    simp at hx
    subst hx
    simp only [locX]
    rw [if_pos h12]
theorem lz_wrap {L : List Xi} {o : List Int} {words : Int} {i : Nat} {x : Xi} {lz : Int} (hx : L[i]? = some x) (hok : OkTo L o words i) (h : lz = (if i = 0 then 0 else locX L)) (h12 : ¬ x.op = 12) : wrap64 (locX L - 1) = lz - 1 := by
  have e := lz_same hx h h12
  have hb : 0 ≤ locX L ∧ locX L ≤ 16 := by
    by_cases e0 : i = 0
    · rw [if_pos e0] at h; omega
    · exact loc_small hok (by omega) (by have := (List.getElem?_eq_some_iff.1 hx).1; omega)
  rw [wrap_id (by unfold I64; omega)]
  omega
theorem kind_goes (op : Nat) (h : op < 16) (h2 : ¬ op = 2) (h12 : ¬ op = 12) (h13 : ¬ (op = 13 ∨ op = 14)) (h0 : 1 ≤ op) : (goesX op = true ∧ kindX op = 2) ∨ (goesX op = false ∧ kindX op = 0) := by
  have h3 : op ∈ List.range 16 := List.mem_range.2 h
  simp only [List.range, List.range.loop, List.mem_cons, List.not_mem_nil, or_false] at h3
  rcases h3 with rfl | rfl | rfl | rfl | rfl | rfl | rfl | rfl | rfl | rfl | rfl | rfl | rfl | rfl | rfl | rfl <;> first | exact Or.inl ⟨rfl, rfl⟩ | exact Or.inr ⟨rfl, rfl⟩ | (exfalso; omega)
set_option maxHeartbeats 20000000 in
set_option maxRecDepth 100000 in
theorem rmay_calls {w : World} {A : Option Addr} {n cap : Nat} {L : List Xi} (hL : InsAt w A L) (hn : n = L.length) (hb : n ≤ 1000000) (words : Int) :
    Calls Try.prog 22 #[defV A n cap, .int .i64 words] w (TellsM L words w) := by
  have hM := Mod.refl [] w
  have hMw := hM.alloc (.cells #[.slice A n cap] 41)
  have hd : (w.alloc (.cells #[.slice A n cap] 41)).cell? ⟨w.heap.size, 0, none⟩ = some (.slice A n cap) := by rw [World.cell?_alloc_new]; rfl
  have HD := Lib.hid hd
  have HMw := Lib.hid hMw
  have H1 := Lib.hid (rloops_calls (cap := cap) (hL.far hMw) hn hb)
  have HN := Lib.hid (And.intro hn hL)
  have hnI : (n : Int) ≤ 1000000 := by omega
  have HB := Lib.hid hb
  clear hL hn hM hMw hd hb
  go_enter Try.func22, Try.ntmps22
  go_wp2_with fail
  refine (H1.out).mono ?_
  rintro e w1 (⟨b, o, rfl, hlab, hiv, hm, hnb⟩ | ⟨rfl, hbad, hm⟩)
  · have hol : o.length = n := by rw [hlab.len, HN.out.1]
    rw [hol]
    have HM1 := Lib.hid (HMw.out.trans hm)
    have h0 : 0 < n := by rw [HN.out.1]; exact hlab.pos
    by_cases h500 : 500 < n
    · have h5 : decide ((500 : Int) < (n : Int)) = true := decide_eq_true (by omega)
      have h5b : decide (500 < n) = true := decide_eq_true h500
      have hno : RowKit.Hid (¬ MayP L words) := Lib.hid fun ⟨h, _⟩ => by have := HN.out.1; omega
      clear hlab hiv hm hnb hol h500 H1
      go_wp2_with fail
      go_ret
      exact ⟨false, rfl, ⟨fun h => (by cases h), fun h => absurd h hno.out⟩, HM1.out⟩
    · have h5 : decide ((500 : Int) < (n : Int)) = false := decide_eq_false (by omega)
      have h5b : decide (500 < n) = false := decide_eq_false h500
      obtain ⟨k, hk⟩ : ∃ k, n = k + 1 := ⟨n - 1, by omega⟩
      have hnk : (n : Int) - 1 = (k : Int) := by omega
      have HK := Lib.hid hk
      have hkn : (k : Int) < (n : Int) := by omega
      obtain ⟨y, u, hy, hu⟩ := last_there hlab
      have HP := Lib.hid (MayP.of (words := words) (show L.length ≤ 500 by have := HN.out.1; omega) hlab hy hu)
      rw [show L.length - 1 = k by have := HN.out.1; omega] at hy hu
      obtain ⟨B, off, rfl, hat, hwy⟩ := (HN.out.2.far HM1.out).get hy
      have hc0 := hat.c0
      have hd1 := hm.cell (by simp) HD.out
      have HDw1 := Lib.hid hd1
      have hkI : (k : Int) ≤ 1000000 := by omega
      have HV := Lib.hid (And.intro hlab (And.intro hiv (And.intro hy (And.intro hu (show n ≤ 500 by omega)))))
      clear hlab hiv hm hnb hol h500 hat hwy hy hu H1 hk
      by_cases hl : y.op = 15 ∨ y.op = 3
      · have HLst := Lib.hid hl
        go_upto_region 6 with fail
        go_cut [38] (fun u wx => u = .bool false ∧ w1 = wx)
        case first =>
          by_cases h15 : y.op = 15
          · have q1 : ((y.op : Int) != 15) = false := by rw [h15]; rfl
            clear hl h15
            go_wp2_with fail
            go_meet
            case rel => exact ⟨rfl, rfl⟩
          · have q1 : ((y.op : Int) != 15) = true := by rw [bne_iff_ne]; omega
            have q2 : ((y.op : Int) != 3) = false := by rw [show y.op = 3 by omega]; rfl
            clear hl h15
            go_wp2_with fail
            go_meet
            case rel => exact ⟨rfl, rfl⟩
        case rest =>
          obtain ⟨rfl, rfl⟩ := hcut
          clear hc0 hl
          go_wp2_with fail
          clear hd1
          go_loopg [9, 10] n (fun g z y wr => ∃ (i : Nat) (lz : Int), z = .int .i64 lz ∧ y = .int .i64 (i : Int) ∧ i + g = n ∧ RowKit.Hid (Mod [] w1 wr ∧ OkTo L o words i ∧ lz = (if i = 0 then 0 else locX L)))
          case atStart => exact ⟨0, 0, rfl, rfl, by omega, Lib.hid ⟨Mod.refl [] _, fun j x h => by omega, rfl⟩⟩
          case round =>
            obtain ⟨i, lz, rfl, rfl, hig, hi⟩ := hrel
            by_cases hlt : i < n
            · have hltI : (i : Int) < (n : Int) := by omega
              have hiI : (i : Int) ≤ 1000000 := by omega
              have hd := (hi.out.1).cell (by simp) HDw1.out
              obtain ⟨x, hx⟩ : ∃ x, L[i]? = some x := ⟨_, List.getElem?_eq_getElem (by have := HN.out.1; omega)⟩
              obtain ⟨v, hv⟩ : ∃ v, o[i]? = some v := ⟨_, List.getElem?_eq_getElem (by rw [HV.out.1.len]; have := HN.out.1; omega)⟩
              obtain ⟨B2, off2, e2, hat, hwx⟩ := (HN.out.2.far (HM1.out.trans hi.out.1)).get hx
              injection e2 with e2
              obtain ⟨rfl, rfl⟩ : B2 = B ∧ off2 = off := by injection e2 with e3 e4; exact ⟨e3.symm, e4.symm⟩
              have hc0 := hat.c0
              have hc1 := hat.c1
              have hc2 := hat.c2
              have hm1 := (Mod.refl [] wr).alloc (.cells #[.int .u8 (x.op : Int), .int .i64 x.a, .int .i64 x.w] 35)
              have hcv := (HV.out.2.1.far (hi.out.1.trans hm1)).cell hv
              have HI := Lib.hid (And.intro (hi.out.1.trans hm1) hi.out.2)
              have HX := Lib.hid (And.intro hx hv)
              have HG := Lib.hid hig
              obtain ⟨gs, hgs⟩ : ∃ gs, gs = goesX x.op := ⟨_, rfl⟩
              have kg := fun W => rgoes_calls W x.op
              rw [← hgs] at kg
              have H2 := Lib.hid kg
              have HGS := Lib.hid hgs
              have hfp := fit_parts (locX L) L.length words i x
              have HFP := Lib.hid hfp
              have NO : fitX (locX L) L.length words i x ≠ true → ¬ MayP L words := fun h k => h ((HP.out.1 k).2 i x hx)
              have HNO := Lib.hid NO
              have HHI := Lib.hid hi.out.2
              have HWX := Lib.hid hwx
              clear hi hx hv hat hwx hm1 hig kg hgs hfp NO e2
              have hop256 : (x.op : Int) < 256 := by have := HWX.out.op; omega
              by_cases hbad : ¬ ((1 ≤ x.op ∧ x.op < 16) ∧ (x.op = 1 ∨ x.w = 0))
              · have hno : RowKit.Hid (¬ MayP L words) := Lib.hid (HNO.out fun h => hbad ⟨(HFP.out.1 h).1, (HFP.out.1 h).2.2.2⟩)
                by_cases z1 : x.op < 1
                · have r1 : decide ((x.op : Int) < 1) = true := decide_eq_true (by omega)
                  have r1b : x.op = 0 := by omega
                  have r1c : decide (x.op = 0) = true := decide_eq_true r1b
                  clear hbad z1 r1b
                  go_wp2_with fail
                  go_ret
                  exact ⟨false, rfl, ⟨fun h => (by cases h), fun h => absurd h hno.out⟩, HM1.out.trans HI.out.1⟩
                · have r1 : decide ((x.op : Int) < 1) = false := decide_eq_false (by omega)
                  have r1c : decide (x.op = 0) = false := decide_eq_false (by omega)
                  by_cases z2 : 16 ≤ x.op
                  · have r2 : decide ((16 : Int) ≤ (x.op : Int)) = true := decide_eq_true (by omega)
                    have r2c : decide (16 ≤ x.op) = true := decide_eq_true z2
                    clear hbad z1 z2
                    go_wp2_with fail
                    go_ret
                    exact ⟨false, rfl, ⟨fun h => (by cases h), fun h => absurd h hno.out⟩, HM1.out.trans HI.out.1⟩
                  · have r2 : decide ((16 : Int) ≤ (x.op : Int)) = false := decide_eq_false (by omega)
                    have r2c : decide (16 ≤ x.op) = false := decide_eq_false z2
                    have r3 : (x.w != 0) = true := by rw [bne_iff_ne]; omega
                    have r4 : ((x.op : Int) != 1) = true := by rw [bne_iff_ne]; omega
                    clear hbad z1 z2
                    go_wp2_with fail
                    go_ret
                    exact ⟨false, rfl, ⟨fun h => (by cases h), fun h => absurd h hno.out⟩, HM1.out.trans HI.out.1⟩
              · have hgood := Classical.not_not.1 hbad
                have HGD := Lib.hid hgood
                have r1 : decide ((x.op : Int) < 1) = false := decide_eq_false (by omega)
                have r1c : decide (x.op = 0) = false := decide_eq_false (by omega)
                have r2 : decide ((16 : Int) ≤ (x.op : Int)) = false := decide_eq_false (by omega)
                have r2c : decide (16 ≤ x.op) = false := decide_eq_false (by omega)
                go_upto_region 13 with fail
                go_cut [66] from 39 to 140 (fun u wx => u = .bool false ∧ wr.alloc (.cells #[.int .u8 (x.op : Int), .int .i64 x.a, .int .i64 x.w] 35) = wx)
                case first =>
                  by_cases z : x.w = 0
                  · have r3 : (x.w != 0) = false := by rw [z]; rfl
                    clear hbad hgood z
                    go_wp2_with fail
                    go_meet
                    case rel => exact ⟨rfl, rfl⟩
                  · have r3 : (x.w != 0) = true := by rw [bne_iff_ne]; exact z
                    have r4 : ((x.op : Int) != 1) = false := by rw [show x.op = 1 by omega]; rfl
                    clear hbad hgood z
                    go_wp2_with fail
                    go_meet
                    case rel => exact ⟨rfl, rfl⟩
                case rest =>
                  obtain ⟨rfl, rfl⟩ := hcut
                  clear hc0 hc1 hc2 hd r1 r1c r2 r2c hbad
                  have hxop : (wr.alloc (.cells #[.int .u8 (x.op : Int), .int .i64 x.a, .int .i64 x.w] 35)).cell? ⟨wr.heap.size, 0, none⟩ = some (.int .u8 (x.op : Int)) := by rw [World.cell?_alloc_new]; rfl
                  have hLn : (L.length : Int) = (n : Int) := by have := HN.out.1; omega
                  by_cases hop : x.op = 2
                  · have hk : kindX x.op = 1 := by rw [hop]; rfl
                    have p2 : ((x.op : Int) == 2) = true := by rw [hop]; rfl
                    have p12 : ((x.op : Int) == 12) = false := by rw [beq_eq_false_iff_ne]; omega
                    have p13 : ((x.op : Int) == 13) = false := by rw [beq_eq_false_iff_ne]; omega
                    have p14 : ((x.op : Int) == 14) = false := by rw [beq_eq_false_iff_ne]; omega
                    have p15 : ((x.op : Int) == 15) = false := by rw [beq_eq_false_iff_ne]; omega
                    by_cases y1 : x.a < 1
                    · have s1 : decide (x.a < 1) = true := decide_eq_true y1
                      have hno : RowKit.Hid (¬ MayP L words) := Lib.hid (HNO.out fun h => by have h2 := (HFP.out.1 h).2.1; have h3 := (HFP.out.1 h).2.2.1; rw [hk] at h2; simp only [spanX] at h2; simp at h2; omega)
                      clear hgood
                      try clear hop
                      try clear hop2
                      try clear hop4
                      try clear y3
                      try clear y2
                      try clear y1
                      go_wp2_with fail
                      go_ret
                      exact ⟨false, rfl, ⟨fun h => (by cases h), fun h => absurd h hno.out⟩, HM1.out.trans HI.out.1⟩
                    · have s1 : decide (x.a < 1) = false := decide_eq_false y1
                      by_cases y2 : words < x.a
                      · have s2 : decide (words < x.a) = true := decide_eq_true y2
                        have hno : RowKit.Hid (¬ MayP L words) := Lib.hid (HNO.out fun h => by have h2 := (HFP.out.1 h).2.1; have h3 := (HFP.out.1 h).2.2.1; rw [hk] at h2; simp only [spanX] at h2; simp at h2; omega)
                        clear hgood
                        try clear hop
                        try clear hop2
                        try clear hop4
                        try clear y3
                        try clear y2
                        try clear y1
                        go_wp2_with fail
                        go_ret
                        exact ⟨false, rfl, ⟨fun h => (by cases h), fun h => absurd h hno.out⟩, HM1.out.trans HI.out.1⟩
                      · have s2 : decide (words < x.a) = false := decide_eq_false y2
                        have hfit : RowKit.Hid (fitX (locX L) L.length words i x = true) := Lib.hid (HFP.out.2 ⟨HGD.out.1, by rw [hk]; simp only [spanX]; simp; omega, by omega, HGD.out.2⟩)
                        have hext : RowKit.Hid (x.op = 15 → i + 1 = L.length → ∀ v, o[i]? = some v → v ≤ 0) := Lib.hid (fun e => absurd e (by omega))
                        have hlz : RowKit.Hid (lz = locX L) := Lib.hid (lz_same HX.out.1 HHI.out.2 (by omega))
                        clear hgood
                        try clear hop
                        try clear hop2
                        try clear hop4
                        try clear y3
                        try clear y2
                        try clear y1
                        go_wp2_with fail
                        go_roundg (gk - 1)
                        case measure => have := HG.out; omega
                        case rel => exact ⟨i + 1, lz, rfl, by go_num, by have := HG.out; omega, Lib.hid ⟨HI.out.1, HHI.out.1.next HX.out.1 hfit.out hext.out, by rw [if_neg (by omega)]; exact hlz.out⟩⟩
                  · by_cases hop2 : x.op = 12
                    · have hk : kindX x.op = 3 := by rw [hop2]; rfl
                      replace hop := hop2
                      have p2 : ((x.op : Int) == 2) = false := by rw [beq_eq_false_iff_ne]; omega
                      have p12 : ((x.op : Int) == 12) = true := by rw [hop]; rfl
                      have p13 : ((x.op : Int) == 13) = false := by rw [beq_eq_false_iff_ne]; omega
                      have p14 : ((x.op : Int) == 14) = false := by rw [beq_eq_false_iff_ne]; omega
                      have p15 : ((x.op : Int) == 15) = false := by rw [beq_eq_false_iff_ne]; omega
                      by_cases y1 : x.a < 1
                      · have s1 : decide (x.a < 1) = true := decide_eq_true y1
                        have hno : RowKit.Hid (¬ MayP L words) := Lib.hid (HNO.out fun h => by have h2 := (HFP.out.1 h).2.1; have h3 := (HFP.out.1 h).2.2.1; rw [hk] at h2; simp only [spanX] at h2; simp at h2; omega)
                        clear hgood
                        try clear hop
                        try clear hop2
                        try clear hop4
                        try clear y3
                        try clear y2
                        try clear y1
                        go_wp2_with fail
                        go_ret
                        exact ⟨false, rfl, ⟨fun h => (by cases h), fun h => absurd h hno.out⟩, HM1.out.trans HI.out.1⟩
                      · have s1 : decide (x.a < 1) = false := decide_eq_false y1
                        by_cases y2 : 16 < x.a
                        · have s2 : decide (16 < x.a) = true := decide_eq_true y2
                          have hno : RowKit.Hid (¬ MayP L words) := Lib.hid (HNO.out fun h => by have h2 := (HFP.out.1 h).2.1; have h3 := (HFP.out.1 h).2.2.1; rw [hk] at h2; simp only [spanX] at h2; simp at h2; omega)
                          clear hgood
                          try clear hop
                          try clear hop2
                          try clear hop4
                          try clear y3
                          try clear y2
                          try clear y1
                          go_wp2_with fail
                          go_ret
                          exact ⟨false, rfl, ⟨fun h => (by cases h), fun h => absurd h hno.out⟩, HM1.out.trans HI.out.1⟩
                        · have s2 : decide (16 < x.a) = false := decide_eq_false y2
                          by_cases y3 : 0 < i
                          · have s3 : decide ((0 : Int) < (i : Int)) = true := decide_eq_true (by omega)
                            have s3b : decide (0 < i) = true := decide_eq_true y3
                            have hno : RowKit.Hid (¬ MayP L words) := Lib.hid (HNO.out fun h => (HFP.out.1 h).2.2.1 ⟨hop, y3⟩)
                            clear hgood
                            try clear hop
                            try clear hop2
                            try clear hop4
                            try clear y3
                            try clear y2
                            try clear y1
                            go_wp2_with fail
                            go_ret
                            exact ⟨false, rfl, ⟨fun h => (by cases h), fun h => absurd h hno.out⟩, HM1.out.trans HI.out.1⟩
                          · have s3 : decide ((0 : Int) < (i : Int)) = false := decide_eq_false (by omega)
                            have s3b : decide (0 < i) = false := decide_eq_false y3
                            have hfit : RowKit.Hid (fitX (locX L) L.length words i x = true) := Lib.hid (HFP.out.2 ⟨HGD.out.1, by rw [hk]; simp only [spanX]; simp; omega, by omega, HGD.out.2⟩)
                            have hext : RowKit.Hid (x.op = 15 → i + 1 = L.length → ∀ v, o[i]? = some v → v ≤ 0) := Lib.hid (fun e => absurd e (by omega))
                            have hlz : RowKit.Hid (x.a = locX L) := Lib.hid (lz_twelve HX.out.1 (by omega) hop)
                            clear hgood
                            try clear hop
                            try clear hop2
                            try clear hop4
                            try clear y3
                            try clear y2
                            try clear y1
                            go_wp2_with fail
                            go_roundg (gk - 1)
                            case measure => have := HG.out; omega
                            case rel => exact ⟨i + 1, x.a, rfl, by go_num, by have := HG.out; omega, Lib.hid ⟨HI.out.1, HHI.out.1.next HX.out.1 hfit.out hext.out, by rw [if_neg (by omega)]; exact hlz.out⟩⟩
                    · by_cases hop3 : x.op = 13 ∨ x.op = 14
                      · have hk : kindX x.op = 4 := by rcases hop3 with h | h <;> rw [h] <;> rfl
                        have hwl : wrap64 (locX L - 1) = lz - 1 := lz_wrap HX.out.1 HHI.out.1 HHI.out.2 (by omega)
                        have p2 : ((x.op : Int) == 2) = false := by rw [beq_eq_false_iff_ne]; omega
                        have p12 : ((x.op : Int) == 12) = false := by rw [beq_eq_false_iff_ne]; omega
                        obtain ⟨b13, hb13⟩ : ∃ b13, b13 = ((x.op : Int) == 13) := ⟨_, rfl⟩
                        have p13 := hb13.symm
                        have p14 : b13 = false → ((x.op : Int) == 14) = true := fun h => by rw [h] at p13; have := beq_eq_false_iff_ne.1 p13; rw [show x.op = 14 by omega]; rfl
                        clear hb13
                        cases b13 with
                        | true =>
                          clear p14
                          by_cases y1 : x.a < 0
                          · have s1 : decide (x.a < 0) = true := decide_eq_true y1
                            have hno : RowKit.Hid (¬ MayP L words) := Lib.hid (HNO.out fun h => by have h2 := (HFP.out.1 h).2.1; rw [hk] at h2; simp only [spanX] at h2; simp at h2; rw [hwl] at h2; omega)
                            clear hgood hwl
                            try clear hop
                            try clear hop2
                            try clear hop4
                            try clear y3
                            try clear y2
                            try clear y1
                            go_wp2_with fail
                            go_ret
                            exact ⟨false, rfl, ⟨fun h => (by cases h), fun h => absurd h hno.out⟩, HM1.out.trans HI.out.1⟩
                          · have s1 : decide (x.a < 0) = false := decide_eq_false y1
                            by_cases y2 : lz ≤ x.a
                            · have s2 : decide (lz ≤ x.a) = true := decide_eq_true y2
                              have hno : RowKit.Hid (¬ MayP L words) := Lib.hid (HNO.out fun h => by have h2 := (HFP.out.1 h).2.1; rw [hk] at h2; simp only [spanX] at h2; simp at h2; rw [hwl] at h2; omega)
                              clear hgood hwl
                              try clear hop
                              try clear hop2
                              try clear hop4
                              try clear y3
                              try clear y2
                              try clear y1
                              go_wp2_with fail
                              go_ret
                              exact ⟨false, rfl, ⟨fun h => (by cases h), fun h => absurd h hno.out⟩, HM1.out.trans HI.out.1⟩
                            · have s2 : decide (lz ≤ x.a) = false := decide_eq_false y2
                              have hfit : RowKit.Hid (fitX (locX L) L.length words i x = true) := Lib.hid (HFP.out.2 ⟨HGD.out.1, by rw [hk]; simp only [spanX]; simp; rw [hwl]; omega, by omega, HGD.out.2⟩)
                              have hext : RowKit.Hid (x.op = 15 → i + 1 = L.length → ∀ v, o[i]? = some v → v ≤ 0) := Lib.hid (fun e => absurd e (by omega))
                              have hlz : RowKit.Hid (lz = locX L) := Lib.hid (lz_same HX.out.1 HHI.out.2 (by omega))
                              clear hgood hwl
                              try clear hop
                              try clear hop2
                              try clear hop4
                              try clear y3
                              try clear y2
                              try clear y1
                              go_wp2_with fail
                              go_roundg (gk - 1)
                              case measure => have := HG.out; omega
                              case rel => exact ⟨i + 1, lz, rfl, by go_num, by have := HG.out; omega, Lib.hid ⟨HI.out.1, HHI.out.1.next HX.out.1 hfit.out hext.out, by rw [if_neg (by omega)]; exact hlz.out⟩⟩
                        | false =>
                          replace p14 := p14 rfl
                          by_cases y1 : x.a < 0
                          · have s1 : decide (x.a < 0) = true := decide_eq_true y1
                            have hno : RowKit.Hid (¬ MayP L words) := Lib.hid (HNO.out fun h => by have h2 := (HFP.out.1 h).2.1; rw [hk] at h2; simp only [spanX] at h2; simp at h2; rw [hwl] at h2; omega)
                            clear hgood hwl
                            try clear hop
                            try clear hop2
                            try clear hop4
                            try clear y3
                            try clear y2
                            try clear y1
                            go_wp2_with fail
                            go_ret
                            exact ⟨false, rfl, ⟨fun h => (by cases h), fun h => absurd h hno.out⟩, HM1.out.trans HI.out.1⟩
                          · have s1 : decide (x.a < 0) = false := decide_eq_false y1
                            by_cases y2 : lz ≤ x.a
                            · have s2 : decide (lz ≤ x.a) = true := decide_eq_true y2
                              have hno : RowKit.Hid (¬ MayP L words) := Lib.hid (HNO.out fun h => by have h2 := (HFP.out.1 h).2.1; rw [hk] at h2; simp only [spanX] at h2; simp at h2; rw [hwl] at h2; omega)
                              clear hgood hwl
                              try clear hop
                              try clear hop2
                              try clear hop4
                              try clear y3
                              try clear y2
                              try clear y1
                              go_wp2_with fail
                              go_ret
                              exact ⟨false, rfl, ⟨fun h => (by cases h), fun h => absurd h hno.out⟩, HM1.out.trans HI.out.1⟩
                            · have s2 : decide (lz ≤ x.a) = false := decide_eq_false y2
                              have hfit : RowKit.Hid (fitX (locX L) L.length words i x = true) := Lib.hid (HFP.out.2 ⟨HGD.out.1, by rw [hk]; simp only [spanX]; simp; rw [hwl]; omega, by omega, HGD.out.2⟩)
                              have hext : RowKit.Hid (x.op = 15 → i + 1 = L.length → ∀ v, o[i]? = some v → v ≤ 0) := Lib.hid (fun e => absurd e (by omega))
                              have hlz : RowKit.Hid (lz = locX L) := Lib.hid (lz_same HX.out.1 HHI.out.2 (by omega))
                              clear hgood hwl
                              try clear hop
                              try clear hop2
                              try clear hop4
                              try clear y3
                              try clear y2
                              try clear y1
                              go_wp2_with fail
                              go_roundg (gk - 1)
                              case measure => have := HG.out; omega
                              case rel => exact ⟨i + 1, lz, rfl, by go_num, by have := HG.out; omega, Lib.hid ⟨HI.out.1, HHI.out.1.next HX.out.1 hfit.out hext.out, by rw [if_neg (by omega)]; exact hlz.out⟩⟩
                      · by_cases hop4 : x.op = 15
                        · have hk : kindX x.op = 0 := by rw [hop4]; rfl
                          replace hop := hop4
                          have p2 : ((x.op : Int) == 2) = false := by rw [beq_eq_false_iff_ne]; omega
                          have p12 : ((x.op : Int) == 12) = false := by rw [beq_eq_false_iff_ne]; omega
                          have p13 : ((x.op : Int) == 13) = false := by rw [beq_eq_false_iff_ne]; omega
                          have p14 : ((x.op : Int) == 14) = false := by rw [beq_eq_false_iff_ne]; omega
                          have p15 : ((x.op : Int) == 15) = true := by rw [hop]; rfl
                          by_cases y1 : x.a = 0
                          · have s1 : (x.a != 0) = false := by rw [y1]; rfl
                            by_cases y2 : i = k
                            · have s2 : ((i : Int) == (k : Int)) = true := by rw [y2]; simp
                              have s2b : (i == k) = true := by rw [y2]; simp
                              by_cases y3 : 0 < v
                              · have s3 : decide (0 < v) = true := decide_eq_true y3
                                have hno : RowKit.Hid (¬ MayP L words) := Lib.hid (fun h => by have h1 := (HP.out.1 h).1; have e1 := HV.out.2.2.1; have e2 := HV.out.2.2.2.1; rw [← y2, HX.out.1] at e1; rw [← y2, HX.out.2] at e2; injection e1 with e1; injection e2 with e2; subst e1 e2; unfold endX at h1; have := of_decide_eq_true h1; omega)
                                clear hgood
                                try clear hop
                                try clear hop2
                                try clear hop4
                                try clear y3
                                try clear y2
                                try clear y1
                                go_wp2_with fail
                                go_ret
                                exact ⟨false, rfl, ⟨fun h => (by cases h), fun h => absurd h hno.out⟩, HM1.out.trans HI.out.1⟩
                              · have s3 : decide (0 < v) = false := decide_eq_false y3
                                have hfit : RowKit.Hid (fitX (locX L) L.length words i x = true) := Lib.hid (HFP.out.2 ⟨HGD.out.1, by rw [hk]; simp only [spanX]; simp; omega, by omega, HGD.out.2⟩)
                                have hext : RowKit.Hid (x.op = 15 → i + 1 = L.length → ∀ v, o[i]? = some v → v ≤ 0) := Lib.hid (fun _ _ v' hv' => by have := HX.out.2; rw [hv'] at this; injection this with this; omega)
                                have hlz : RowKit.Hid (lz = locX L) := Lib.hid (lz_same HX.out.1 HHI.out.2 (by omega))
                                clear hgood
                                try clear hop
                                try clear hop2
                                try clear hop4
                                try clear y3
                                try clear y2
                                try clear y1
                                go_wp2_with fail
                                go_roundg (gk - 1)
                                case measure => have := HG.out; omega
                                case rel => exact ⟨i + 1, lz, rfl, by go_num, by have := HG.out; omega, Lib.hid ⟨HI.out.1, HHI.out.1.next HX.out.1 hfit.out hext.out, by rw [if_neg (by omega)]; exact hlz.out⟩⟩
                            · have s2 : ((i : Int) == (k : Int)) = false := by rw [beq_eq_false_iff_ne]; omega
                              have s2b : (i == k) = false := by rw [beq_eq_false_iff_ne]; omega
                              have hfit : RowKit.Hid (fitX (locX L) L.length words i x = true) := Lib.hid (HFP.out.2 ⟨HGD.out.1, by rw [hk]; simp only [spanX]; simp; omega, by omega, HGD.out.2⟩)
                              have hext : RowKit.Hid (x.op = 15 → i + 1 = L.length → ∀ v, o[i]? = some v → v ≤ 0) := Lib.hid (fun _ hh => absurd hh (by have := HN.out.1; have := HK.out; omega))
                              have hlz : RowKit.Hid (lz = locX L) := Lib.hid (lz_same HX.out.1 HHI.out.2 (by omega))
                              clear hgood
                              try clear hop
                              try clear hop2
                              try clear hop4
                              try clear y3
                              try clear y2
                              try clear y1
                              go_wp2_with fail
                              go_roundg (gk - 1)
                              case measure => have := HG.out; omega
                              case rel => exact ⟨i + 1, lz, rfl, by go_num, by have := HG.out; omega, Lib.hid ⟨HI.out.1, HHI.out.1.next HX.out.1 hfit.out hext.out, by rw [if_neg (by omega)]; exact hlz.out⟩⟩
                          · have s1 : (x.a != 0) = true := by rw [bne_iff_ne]; exact y1
                            have hno : RowKit.Hid (¬ MayP L words) := Lib.hid (HNO.out fun h => by have h2 := (HFP.out.1 h).2.1; have h3 := (HFP.out.1 h).2.2.1; rw [hk] at h2; simp only [spanX] at h2; simp at h2; omega)
                            clear hgood
                            try clear hop
                            try clear hop2
                            try clear hop4
                            try clear y3
                            try clear y2
                            try clear y1
                            go_wp2_with fail
                            go_ret
                            exact ⟨false, rfl, ⟨fun h => (by cases h), fun h => absurd h hno.out⟩, HM1.out.trans HI.out.1⟩
                        · have p2 : ((x.op : Int) == 2) = false := by rw [beq_eq_false_iff_ne]; omega
                          have p12 : ((x.op : Int) == 12) = false := by rw [beq_eq_false_iff_ne]; omega
                          have p13 : ((x.op : Int) == 13) = false := by rw [beq_eq_false_iff_ne]; omega
                          have p14 : ((x.op : Int) == 14) = false := by rw [beq_eq_false_iff_ne]; omega
                          have p15 : ((x.op : Int) == 15) = false := by rw [beq_eq_false_iff_ne]; omega
                          have hcase : (goesX x.op = true ∧ kindX x.op = 2) ∨ (goesX x.op = false ∧ kindX x.op = 0) := kind_goes x.op (by omega) (by omega) (by omega) (by omega) (by omega)
                          have hx1 : (wr.alloc (.cells #[.int .u8 (x.op : Int), .int .i64 x.a, .int .i64 x.w] 35)).cell? ⟨wr.heap.size, 1, none⟩ = some (.int .i64 x.a) := by rw [World.cell?_alloc_new]; rfl
                          cases gs with
                          | true =>
                            have hk : kindX x.op = 2 := by rcases hcase with h | h; exact h.2; have := HGS.out; rw [h.1] at this; cases this
                            by_cases y1 : x.a < 0
                            · have s1 : decide (x.a < 0) = true := decide_eq_true y1
                              have hno : RowKit.Hid (¬ MayP L words) := Lib.hid (HNO.out fun h => by have h2 := (HFP.out.1 h).2.1; have h3 := (HFP.out.1 h).2.2.1; rw [hk] at h2; simp only [spanX] at h2; simp at h2; omega)
                              clear hgood
                              try clear hop
                              try clear hop2
                              try clear hop4
                              try clear y3
                              try clear y2
                              try clear y1
                              go_wp2_with (refine (H2.out _).mono ?_; rintro e w4 ⟨rfl, rfl⟩)
                              go_ret
                              exact ⟨false, rfl, ⟨fun h => (by cases h), fun h => absurd h hno.out⟩, HM1.out.trans HI.out.1⟩
                            · have s1 : decide (x.a < 0) = false := decide_eq_false y1
                              by_cases y2 : (n : Int) ≤ x.a
                              · have s2 : decide ((n : Int) ≤ x.a) = true := decide_eq_true y2
                                have hno : RowKit.Hid (¬ MayP L words) := Lib.hid (HNO.out fun h => by have h2 := (HFP.out.1 h).2.1; have h3 := (HFP.out.1 h).2.2.1; rw [hk] at h2; simp only [spanX] at h2; simp at h2; omega)
                                clear hgood
                                try clear hop
                                try clear hop2
                                try clear hop4
                                try clear y3
                                try clear y2
                                try clear y1
                                go_wp2_with (refine (H2.out _).mono ?_; rintro e w4 ⟨rfl, rfl⟩)
                                go_ret
                                exact ⟨false, rfl, ⟨fun h => (by cases h), fun h => absurd h hno.out⟩, HM1.out.trans HI.out.1⟩
                              · have s2 : decide ((n : Int) ≤ x.a) = false := decide_eq_false y2
                                have hfit : RowKit.Hid (fitX (locX L) L.length words i x = true) := Lib.hid (HFP.out.2 ⟨HGD.out.1, by rw [hk]; simp only [spanX]; simp; omega, by omega, HGD.out.2⟩)
                                have hext : RowKit.Hid (x.op = 15 → i + 1 = L.length → ∀ v, o[i]? = some v → v ≤ 0) := Lib.hid (fun e => absurd e (by omega))
                                have hlz : RowKit.Hid (lz = locX L) := Lib.hid (lz_same HX.out.1 HHI.out.2 (by omega))
                                clear hgood
                                try clear hop
                                try clear hop2
                                try clear hop4
                                try clear y3
                                try clear y2
                                try clear y1
                                go_wp2_with (refine (H2.out _).mono ?_; rintro e w4 ⟨rfl, rfl⟩)
                                go_roundg (gk - 1)
                                case measure => have := HG.out; omega
                                case rel => exact ⟨i + 1, lz, rfl, by go_num, by have := HG.out; omega, Lib.hid ⟨HI.out.1, HHI.out.1.next HX.out.1 hfit.out hext.out, by rw [if_neg (by omega)]; exact hlz.out⟩⟩
                          | false =>
                            have hk : kindX x.op = 0 := by rcases hcase with h | h; (have := HGS.out; rw [h.1] at this; cases this); exact h.2
                            by_cases y1 : x.a = 0
                            · have s1 : (x.a != 0) = false := by rw [y1]; rfl
                              have hfit : RowKit.Hid (fitX (locX L) L.length words i x = true) := Lib.hid (HFP.out.2 ⟨HGD.out.1, by rw [hk]; simp only [spanX]; simp; omega, by omega, HGD.out.2⟩)
                              have hext : RowKit.Hid (x.op = 15 → i + 1 = L.length → ∀ v, o[i]? = some v → v ≤ 0) := Lib.hid (fun e => absurd e (by omega))
                              have hlz : RowKit.Hid (lz = locX L) := Lib.hid (lz_same HX.out.1 HHI.out.2 (by omega))
                              clear hgood
                              try clear hop
                              try clear hop2
                              try clear hop4
                              try clear y3
                              try clear y2
                              try clear y1
                              go_wp2_with (refine (H2.out _).mono ?_; rintro e w4 ⟨rfl, rfl⟩)
                              go_roundg (gk - 1)
                              case measure => have := HG.out; omega
                              case rel => exact ⟨i + 1, lz, rfl, by go_num, by have := HG.out; omega, Lib.hid ⟨HI.out.1, HHI.out.1.next HX.out.1 hfit.out hext.out, by rw [if_neg (by omega)]; exact hlz.out⟩⟩
                            · have s1 : (x.a != 0) = true := by rw [bne_iff_ne]; exact y1
                              have hno : RowKit.Hid (¬ MayP L words) := Lib.hid (HNO.out fun h => by have h2 := (HFP.out.1 h).2.1; have h3 := (HFP.out.1 h).2.2.1; rw [hk] at h2; simp only [spanX] at h2; simp at h2; omega)
                              clear hgood
                              try clear hop
                              try clear hop2
                              try clear hop4
                              try clear y3
                              try clear y2
                              try clear y1
                              go_wp2_with (refine (H2.out _).mono ?_; rintro e w4 ⟨rfl, rfl⟩)
                              go_ret
                              exact ⟨false, rfl, ⟨fun h => (by cases h), fun h => absurd h hno.out⟩, HM1.out.trans HI.out.1⟩
            · have hltI : ¬ (i : Int) < (n : Int) := by omega
              have hin : i = n := by omega
              have HE := Lib.hid (show MayP L words from HP.out.2 ⟨by
                have h1 := HV.out.2.2.1
                have h2 := HV.out.2.2.2.1
                have h3 := (hi.out.2.1 k y (by have := HK.out; omega) h1).2
                unfold endX
                refine decide_eq_true ?_
                rcases HLst.out with h | h
                · exact Or.inr ⟨h, h3 h (by have := HN.out.1; have := HK.out; omega) u h2⟩
                · exact Or.inl h, fun j z hz => (hi.out.2.1 j z (by have := (List.getElem?_eq_some_iff.1 hz).1; have := HN.out.1; omega) hz).1⟩)
              have HI := Lib.hid hi.out.1
              clear hi hin
              go_wp2_with fail
              go_ret
              exact ⟨true, rfl, ⟨fun _ => HE.out, fun _ => rfl⟩, HM1.out.trans HI.out⟩
      · have hno : RowKit.Hid (¬ MayP L words) := Lib.hid fun h => by
          have := (HP.out.1 h).1
          unfold endX at this
          have := of_decide_eq_true this
          omega
        have q1 : ((y.op : Int) != 15) = true := by rw [bne_iff_ne]; omega
        have q2 : ((y.op : Int) != 3) = true := by rw [bne_iff_ne]; omega
        clear hl
        go_wp2_with fail
        go_ret
        exact ⟨false, rfl, ⟨fun h => (by cases h), fun h => absurd h hno.out⟩, HM1.out⟩
  · have hno : RowKit.Hid (¬ MayP L words) := Lib.hid (MayP.bad hbad)
    have HM1 := Lib.hid (HMw.out.trans hm)
    clear hbad hm H1
    by_cases h500 : 500 < n
    · have h5 : decide ((500 : Int) < (n : Int)) = true := decide_eq_true (by omega)
      have h5b : decide (500 < n) = true := decide_eq_true h500
      clear h500
      go_wp2_with fail
      go_ret
      exact ⟨false, rfl, ⟨fun h => (by cases h), fun h => absurd h hno.out⟩, HM1.out⟩
    · have h5 : decide ((500 : Int) < (n : Int)) = false := decide_eq_false (by omega)
      have h5b : decide (500 < n) = false := decide_eq_false h500
      clear h500
      go_wp2_with fail
      go_ret
      exact ⟨false, rfl, ⟨fun h => (by cases h), fun h => absurd h hno.out⟩, HM1.out⟩
end Go.Proofs.Ytnclfopdgilgaaa
