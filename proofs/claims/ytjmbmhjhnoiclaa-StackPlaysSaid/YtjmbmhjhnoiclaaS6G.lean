/- Layer 6 (package stack): cells are taken and pushed by their places; all operations. Condition: the block is a stack (St). -/
import Derived.Test.YtjmbmhjhnoiclaaS6F
import Derived.Lib.OthersKept
namespace Go.Proofs.Ytjmbmhjhnoiclaa
open Go.RowKit
set_option linter.unusedVariables false

/-- What takes t cells and pushes those at the places ps tells, and leaves. -/
def replL (t : Nat) (ps : List Nat) (L : List Int) : Int × List Int :=
  if L.length < t then (-4, L) else if 128 < L.length - t + ps.length then (-3, L) else (0, L.take (L.length - t) ++ ps.map fun i => (L.drop (L.length - t)).getD i 0)
theorem posS_size (ps : List Nat) : (posS ps).size = ps.length := by simp [posS, ByteArray.size]
theorem posS_get (ps : List Nat) (hp : ∀ i ∈ ps, i < 4) (k : Nat) (h : k < ps.length) : ((posS ps)[k]'(by rw [posS_size]; exact h)).toNat = 48 + ps[k] := by
  have h4 := hp _ (List.getElem_mem h)
  show ((posS ps).data[k]'_).toNat = _
  simp only [posS, List.getElem_toArray, List.getElem_map, UInt8.toNat_ofNat']
  omega
theorem posS_at {ps : List Nat} (hp : ∀ i ∈ ps, i < 4) {S : ByteArray} (hS : S = posS ps) : ∀ k (h : k < S.size) (h2 : k < ps.length), (S[k]).toNat = 48 + ps[k] := by
  subst hS
  exact fun k _ h2 => posS_get ps hp k h2
theorem repl_under {w : World} {p : Nat} {L : List Int} (h : St w p L) (t : Nat) (ps : List Nat) (ht : t ≤ 4) (hb : L.length < t) :
    Calls Try.prog 35 #[Pt p, .int .i64 (t : Int), .string (posS ps)] w fun e w' => e = .returned (.int .i64 (-4)) ∧ w = w' := by
  have hd := h.depth
  obtain ⟨S, hS⟩ : ∃ S, S = posS ps := ⟨_, rfl⟩
  rw [← hS]
  obtain ⟨d, hdd⟩ : ∃ d, d = L.length := ⟨_, rfl⟩
  rw [← hdd] at hd hb
  clear h hdd hS
  go_enter Try.func35, Try.ntmps35
  go_wp2
  go_ret
  exact ⟨rfl, rfl⟩
theorem repl_over {w : World} {p : Nat} {L : List Int} (h : St w p L) (t : Nat) (ps : List Nat) (ht : t ≤ 4) (h6 : ps.length ≤ 6) (hb : ¬ L.length < t) (hc : 128 < L.length - t + ps.length) :
    Calls Try.prog 35 #[Pt p, .int .i64 (t : Int), .string (posS ps)] w fun e w' => e = .returned (.int .i64 (-3)) ∧ w = w' := by
  have hd := h.depth
  have hl := h.n
  have hs := posS_size ps
  obtain ⟨S, hS⟩ : ∃ S, S = posS ps := ⟨_, rfl⟩
  rw [← hS] at hs ⊢
  obtain ⟨d, hdd⟩ : ∃ d, d = L.length := ⟨_, rfl⟩
  rw [← hdd] at hd hb hc hl
  have h1 : (128 : Int) < (d : Int) - (t : Int) + (S.size : Int) := by omega
  have h2 : (S.size : Int) ≤ 6 := by omega
  clear h hdd hS hs hc h6
  go_enter Try.func35, Try.ntmps35
  go_wp2
  go_ret
  exact ⟨rfl, rfl⟩
theorem St.push {w : World} {p : Nat} {L : List Int} (h : St w p L) (x : Int) (hx : I64 x) (hb : L.length < 128) : St ((w.setCell ⟨p, L.length, none⟩ (.int .i64 x)).setCell ⟨p, 128, none⟩ (.int .i64 ((L.length : Int) + 1))) p (L ++ [x]) := by
  obtain ⟨⟨C, hR, he⟩, hI⟩ := h
  refine ⟨⟨C.set L.length x, ?_, ?_⟩, all_app hI (by simpa using hx)⟩
  · have := (hR.put L.length hb x).depth (L.length + 1) (by omega)
    simpa using this
  · have hl := hR.len
    rw [List.length_append, List.length_singleton, List.take_succ_eq_append_getElem (by simp; omega), List.take_set_of_le (Nat.le_refl _), he]
    simp
theorem Mod.iterAt {S : List Nat} {a b : World} (h : Mod S a b) {k : Nat} (hk : a.heap.size ≤ k) (s : ByteArray) (pos : Nat) : Mod S a (b.iterAt k s pos) :=
  h.far1 (p := k) ⟨rfl, rfl, rfl, by simp [World.iterAt], fun i _ hi => by
    show (b.heap.setIfInBounds k _)[i]? = _
    rw [Array.getElem?_setIfInBounds_ne (by simpa [eq_comm] using hi)]⟩ hk
theorem map_take_snoc (ps : List Nat) (f : Nat → Int) (k : Nat) (h : k < ps.length) : (ps.take (k + 1)).map f = (ps.take k).map f ++ [f ps[k]] := by
  rw [List.take_succ_eq_append_getElem h, List.map_append]; rfl
theorem drop_i64 {L : List Int} (h : ∀ x ∈ L, I64 x) (n : Nat) : ∀ x ∈ L.drop n, I64 x := fun x hx => h x (List.mem_of_mem_drop hx)
theorem iterPos_of {W : World} {it : Nat} {S : ByteArray} {pos : Nat} (h : W.heap[it]? = some (.stringIter S pos)) : W.iterPos it = pos := by simp [World.iterPos, h]
set_option maxHeartbeats 2000000 in
set_option maxRecDepth 10000 in
theorem repl_ok {w : World} {p : Nat} {L : List Int} (h : St w p L) (t : Nat) (ps : List Nat) (ht : t ≤ 4) (h6 : ps.length ≤ 6) (hps : ∀ i ∈ ps, i < t) (hb : ¬ L.length < t) (hc : ¬ 128 < L.length - t + ps.length) :
    Calls Try.prog 35 #[Pt p, .int .i64 (t : Int), .string (posS ps)] w (Turns p w (.int .i64 0) (L.take (L.length - t) ++ ps.map fun i => (L.drop (L.length - t)).getD i 0)) := by
  have hd := h.depth
  have hl := h.n
  have hIL := h.2
  have hT := take_ok h t (by omega)
  unfold Taken at hT
  have hs := posS_size ps
  have hg := fun S hS => posS_at (ps := ps) (fun i hi => by have := hps i hi; omega) (S := S) hS
  have hTl : (L.drop (L.length - t)).length = t := by simp; omega
  have hBl : (L.take (L.length - t)).length = L.length - t := by simp
  have hIT := drop_i64 hIL (L.length - t)
  obtain ⟨T, hTe⟩ : ∃ T, T = L.drop (L.length - t) := ⟨_, rfl⟩
  obtain ⟨B, hBe⟩ : ∃ B, B = L.take (L.length - t) := ⟨_, rfl⟩
  obtain ⟨f, hf⟩ : ∃ f : Nat → Int, f = fun i => T.getD i 0 := ⟨_, rfl⟩
  rw [← hTe, ← hBe] at hT
  rw [← hTe] at hTl hIT
  rw [← hBe] at hBl
  rw [← hTe, ← hBe, ← hf]
  obtain ⟨S, hS⟩ : ∃ S, S = posS ps := ⟨_, rfl⟩
  rw [← hS] at hs ⊢
  have hg := hg S hS
  obtain ⟨d, hdd⟩ : ∃ d, d = L.length := ⟨_, rfl⟩
  obtain ⟨n, hn⟩ : ∃ n, n = ps.length := ⟨_, rfl⟩
  rw [← hdd] at hd hb hc hl hBl
  rw [← hn] at hc hs h6
  have h1 : ¬ (128 : Int) < (d : Int) - (t : Int) + (S.size : Int) := by omega
  have h2 : (S.size : Int) ≤ 6 := by omega
  have HT := Lib.hid hT
  have HG := Lib.hid hg
  have HS := Lib.hid hs
  have HL := Lib.hid (And.intro hTl hBl)
  have HI := Lib.hid hIT
  have HF := Lib.hid hf
  have HN := Lib.hid hn
  have HP := Lib.hid hps
  have hlp := Lib.hid h.lp
  clear h hdd hS hs hg hT hTe hBe hTl hBl hIT hIL hf hn hps
  go_enter Try.func35, Try.ntmps35
  go_wp2_with fail
  refine (HT.out).mono ?_
  rintro e w1 ⟨b, c, rfl, ho, hbb, hs, hm⟩
  obtain ⟨it, hit⟩ : ∃ it, it = w1.heap.size := ⟨_, rfl⟩
  have M0 : Mod [] w1 (w1.iter S 0) := (Mod.refl [] w1).alloc _
  have hi0 : (w1.iter S 0).heap[it]? = some (.stringIter S 0) := by rw [hit]; exact (MapKept.heap_alloc w1 _).1
  have R0 := hs.far M0
  have O0 := ho.mod M0 (by simp)
  have MM := hm.far M0
  have hitw : w.heap.size ≤ it := by rw [hit]; exact hm.size
  have hip : p ≠ it := by have := hs.lp; omega
  have hib : b ≠ it := by have := ho.lt; omega
  have hbp : b ≠ p := by have := hlp.out; omega
  have HIT := Lib.hid hit
  have HQ := Lib.hid (And.intro hitw (And.intro hip (And.intro hib hbp)))
  clear HT ho hs hm hit hbb M0 hitw hip hib hbp
  go_wp2_with fail
  rw [← HIT.out]
  go_loopw [11] (fun _ wr => ∃ k : Nat, k ≤ n ∧ RowKit.Hid (wr.heap[it]? = some (.stringIter S k)) ∧ St wr p (B ++ (ps.take k).map f) ∧ Ow wr b T c ∧ Mod [p] w wr) (fun _ wr => n - wr.iterPos it)
  case atStart => exact ⟨0, by omega, Lib.hid hi0, by simpa using R0, O0, MM⟩
  case round =>
    clear hi0 R0 O0 MM
    obtain ⟨k, hk, hi, hs, ho, hm⟩ := hrel
    by_cases hlt : k < n
    · have hkS : k < S.size := by rw [HS.out]; exact hlt
      have hkp : k < ps.length := by rw [← HN.out]; exact hlt
      obtain ⟨i, hie⟩ : ∃ i, i = ps[k] := ⟨_, rfl⟩
      have hit4 : i < t := by rw [hie]; exact HP.out _ (List.getElem_mem hkp)
      have hgk := HG.out k hkS hkp
      rw [← hie] at hgk
      have hnx : ∀ ty, (Instr.next (.pointer (some ⟨it, 0, none⟩)) true ty).run Try.prog wr = _ := fun ty => Lib.run_next_ascii_at wr it S k ty hi.out hkS (by rw [hgk]; omega)
      rw [hgk, show ((48 + i : Nat) : Int) = 48 + (i : Int) by omega] at hnx
      have Mi : Mod [it] wr (wr.iterAt it S (k + 1)) := ⟨rfl, rfl, rfl, by rw [Lib.iterAt_size]; exact Nat.le_refl _, fun j _ hj => Lib.iterAt_other _ _ _ _ _ (by simpa using hj)⟩
      have hi2 := Lib.iterAt_heap wr it S k (k + 1) hi.out
      have s2 := hs.mod Mi (by simpa using HQ.out.2.1)
      have o2 := ho.mod Mi (by simpa using HQ.out.2.2.1)
      have m2 := hm.far1 Mi HQ.out.1
      generalize wr.iterAt it S (k + 1) = W2 at *
      have hlen : (B ++ (ps.take k).map f).length = d - t + k := by rw [List.length_append, HL.out.2, List.length_map, List.length_take]; omega
      have hd2 := s2.depth
      have hf2 := s2.free (d - t + k)
      have hf3 := s2.free 128
      have hc2 := o2.cell i (by rw [HL.out.1]; exact hit4)
      obtain ⟨y, hy⟩ : ∃ y, W2.cell? ⟨p, d - t + k, none⟩ = some (.int .i64 y) := by
        obtain ⟨⟨C, hR, _⟩, _⟩ := s2
        exact ⟨_, hR.c (d - t + k) (by rw [hR.len]; omega)⟩
      have hx : f i = T[i]'(by rw [HL.out.1]; exact hit4) := by rw [HF.out]; simp [HL.out.1, hit4]
      rw [← hx] at hc2
      have hIx : I64 (f i) := by rw [hx]; exact HI.out _ (List.getElem_mem _)
      obtain ⟨x, hxe⟩ : ∃ x, x = f i := ⟨_, rfl⟩
      rw [← hxe] at hc2 hIx
      rw [hlen] at hd2
      have s3 := (s2.far (Mod.refl [] _).drew).push x hIx (by rw [hlen]; omega)
      rw [hlen] at s3
      obtain ⟨m, hme⟩ : ∃ m, m = d - t + k := ⟨_, rfl⟩
      rw [← hme] at hd2 hf2 hy s3
      have q1 := ((Mod.refl [p] W2).drew.one (p := p) (by simp) m (.int .i64 x)).one (p := p) (by simp) 128 (.int .i64 ((m : Int) + 1))
      have hi3 := (q1.block it (by exact (Array.getElem?_eq_some_iff.1 hi2).1) (by simpa [eq_comm] using HQ.out.2.1)).trans hi2
      have g1 : (0 : Int) ≤ (m : Int) := by omega
      have g2 : (m : Int) < 128 := by omega
      have g3 : (0 : Int) ≤ (i : Int) := by omega
      have g4 : (i : Int) < (t : Int) := by omega
      have g5 : m ≠ 128 := by omega
      have HR := Lib.hid (And.intro s3 (And.intro o2 (And.intro m2 (And.intro q1 hi3))))
      have HX := Lib.hid hxe
      have HE := Lib.hid hie
      have HI2 := Lib.hid hi
      clear hgk hs ho hm hlen hx hxe hie s2 o2 m2 s3 q1 hi2 hi3 hme hi Mi hIx
      go_wp2_with fail
      go_region
      go_wp2
      go_roundw
      case rel =>
        obtain ⟨q1, q2, q3, q4, q5⟩ := HR.out
        refine ⟨k + 1, by omega, Lib.hid ?_, ?_, q2.mod q4 (by simpa using HQ.out.2.2.2), q3.trans q4⟩
        · exact q5
        · rw [map_take_snoc ps f k hkp, ← List.append_assoc, ← HE.out, ← HX.out]
          exact q1
      case measure =>
        obtain ⟨q1, q2, q3, q4, q5⟩ := HR.out
        rw [iterPos_of HI2.out.out]
        exact Nat.lt_of_le_of_lt (Nat.le_of_eq (congrArg (n - ·) (iterPos_of q5))) (by show n - (k + 1) < n - k; omega)
    · have hnx : ∀ ty, (Instr.next (.pointer (some ⟨it, 0, none⟩)) true ty).run Try.prog wr = _ := fun ty => Lib.run_next_end_at wr it S k ty hi.out (by rw [HS.out]; exact hlt)
      have hkn : k = n := by omega
      have HR := Lib.hid (And.intro hs (And.intro hm hkn))
      clear hs hm hkn ho hlt hk hi hg
      go_wp2
      go_ret
      obtain ⟨q1, q2, q3⟩ := HR.out
      refine ⟨rfl, ?_, q2⟩
      rw [q3, HN.out, List.take_length] at q1
      exact q1
/-- What an operation tells, and leaves. -/
def doL (op : Int) (L : List Int) : Int × List Int :=
  if op = 40 then pickL L else if op = 41 then rollL L else if op = 42 then putL [(L.length : Int)] L
  else if (shapeL op (topZ L)).1 = 0 then (1, L) else replL (shapeL op (topZ L)).1 (shapeL op (topZ L)).2 L
theorem repl_calls {w : World} {p : Nat} {L : List Int} (h : St w p L) (t : Nat) (ps : List Nat) (ht : t ≤ 4) (h6 : ps.length ≤ 6) (hps : ∀ i ∈ ps, i < t) :
    Calls Try.prog 35 #[Pt p, .int .i64 (t : Int), .string (posS ps)] w (Turns p w (.int .i64 (replL t ps L).1) (replL t ps L).2) := by
  unfold replL
  by_cases hb : L.length < t
  · rw [if_pos hb]
    exact (repl_under h t ps ht hb).mono fun e w' ⟨he, hw⟩ => ⟨he, hw ▸ h, hw ▸ Mod.refl _ _⟩
  · rw [if_neg hb]
    by_cases hc : 128 < L.length - t + ps.length
    · rw [if_pos hc]
      exact (repl_over h t ps ht h6 hb hc).mono fun e w' ⟨he, hw⟩ => ⟨he, hw ▸ h, hw ▸ Mod.refl _ _⟩
    · rw [if_neg hc]
      exact repl_ok h t ps ht h6 hps hb hc
theorem pick_calls {w : World} {p : Nat} {L : List Int} (h : St w p L) :
    Calls Try.prog 32 #[Pt p] w (Turns p w (.int .i64 (pickL L).1) (pickL L).2) := by
  rcases chosen_cases L with ⟨e, h0⟩ | ⟨A, x, B, rfl, e⟩
  · have hc : Calls Try.prog 38 #[Pt p] w fun e w' => e = .returned (.tuple #[.int .i64 0, .int .i64 (-4)]) ∧ w = w' := by
      rcases h0 with rfl | ⟨R, u, rfl, hu⟩
      · exact chosen_none h
      · exact chosen_no h hu
    unfold pickL
    rw [e]
    exact (pick_none hc).mono fun e w' ⟨he, hw⟩ => ⟨he, hw ▸ h, hw ▸ Mod.refl _ _⟩
  · unfold pickL
    rw [e]
    exact pick_ok h
theorem roll_calls {w : World} {p : Nat} {L : List Int} (h : St w p L) :
    Calls Try.prog 33 #[Pt p] w (Turns p w (.int .i64 (rollL L).1) (rollL L).2) := by
  rcases chosen_cases L with ⟨e, h0⟩ | ⟨A, x, B, rfl, e⟩
  · have hc : Calls Try.prog 38 #[Pt p] w fun e w' => e = .returned (.tuple #[.int .i64 0, .int .i64 (-4)]) ∧ w = w' := by
      rcases h0 with rfl | ⟨R, u, rfl, hu⟩
      · exact chosen_none h
      · exact chosen_no h hu
    unfold rollL
    rw [e]
    exact (roll_none hc).mono fun e w' ⟨he, hw⟩ => ⟨he, hw ▸ h, hw ▸ Mod.refl _ _⟩
  · unfold rollL
    rw [e]
    exact roll_ok h
theorem do_nil (op : Int) (w : World) : Calls Try.prog 18 #[.pointer none, .int .i64 op] w fun e w' => e = .returned (.int .i64 2) ∧ w = w' := by
  go_enter Try.func18, Try.ntmps18
  go_wp2
  go_ret
  exact ⟨rfl, rfl⟩
set_option maxHeartbeats 1000000 in
theorem do_calls {w : World} {p : Nat} {L : List Int} (h : St w p L) (op : Int) :
    Calls Try.prog 18 #[Pt p, .int .i64 op] w (Turns p w (.int .i64 (doL op L).1) (doL op L).2) := by
  unfold doL
  by_cases h40 : op = 40
  · subst h40
    have hC := Lib.hid (pick_calls h)
    rw [if_pos rfl]
    obtain ⟨r, hr⟩ : ∃ r, r = pickL L := ⟨_, rfl⟩
    rw [← hr] at hC ⊢
    clear h hr
    go_enter Try.func18, Try.ntmps18
    go_wp2_with fail
    refine (hC.out).mono ?_
    rintro e w1 ⟨rfl, h1⟩
    have H1 := Lib.hid h1
    clear h1
    go_wp2
    go_ret
    exact ⟨rfl, H1.out⟩
  rw [if_neg h40]
  by_cases h41 : op = 41
  · subst h41
    have hC := Lib.hid (roll_calls h)
    rw [if_pos rfl]
    obtain ⟨r, hr⟩ : ∃ r, r = rollL L := ⟨_, rfl⟩
    rw [← hr] at hC ⊢
    clear h hr h40
    go_enter Try.func18, Try.ntmps18
    go_wp2_with fail
    refine (hC.out).mono ?_
    rintro e w1 ⟨rfl, h1⟩
    have H1 := Lib.hid h1
    clear h1
    go_wp2
    go_ret
    exact ⟨rfl, H1.out⟩
  rw [if_neg h41]
  by_cases h42 : op = 42
  · subst h42
    have hl := h.n
    have hC := Lib.hid (push_calls h (L.length : Int) (by unfold I64; omega))
    have hd := h.depth
    rw [if_pos rfl]
    obtain ⟨r, hr⟩ : ∃ r, r = putL [(L.length : Int)] L := ⟨_, rfl⟩
    rw [← hr] at hC ⊢
    clear h hr h40 h41 hl
    go_enter Try.func18, Try.ntmps18
    go_wp2_with fail
    refine (hC.out).mono ?_
    rintro e w1 ⟨rfl, h1⟩
    have H1 := Lib.hid h1
    clear h1
    go_wp2
    go_ret
    exact ⟨rfl, H1.out⟩
  rw [if_neg h42]
  have hE := effect_calls h op
  obtain ⟨l1, l2, l3, l4⟩ := shapeL_le op (topZ L)
  obtain ⟨t, ht⟩ : ∃ t, t = (shapeL op (topZ L)).1 := ⟨_, rfl⟩
  obtain ⟨ps, hps⟩ : ∃ ps, ps = (shapeL op (topZ L)).2 := ⟨_, rfl⟩
  rw [← ht, ← hps] at hE l2
  rw [← ht] at l1
  rw [← hps] at l3
  rw [← ht, ← hps]
  unfold EffR at hE
  have HE := Lib.hid hE
  have HR := Lib.hid (fun W (hs : St W p L) => repl_calls hs t ps l1 l3 l2)
  have HS := Lib.hid h
  have b40 : (op == 40) = false := by simpa using h40
  have b41 : (op == 41) = false := by simpa using h41
  have b42 : (op == 42) = false := by simpa using h42
  obtain ⟨S, hS⟩ : ∃ S, S = posS ps := ⟨_, rfl⟩
  rw [← hS] at HE HR
  clear h hE l1 l2 l3 l4 ht hps h40 h41 h42 hS
  by_cases h0 : t = 0
  · rw [if_pos h0]
    subst h0
    go_enter Try.func18, Try.ntmps18
    go_wp2_with fail
    refine (HE.out).mono ?_
    rintro e w1 ⟨rfl, h1⟩
    have H1 := Lib.hid h1
    clear h1
    go_wp2
    go_ret
    exact ⟨rfl, HS.out.far H1.out, H1.out.up (by simp)⟩
  · rw [if_neg h0]
    have b0 : ((t : Int) == 0) = false := by simpa using h0
    obtain ⟨r, hr⟩ : ∃ r, r = replL t ps L := ⟨_, rfl⟩
    rw [← hr] at HR ⊢
    clear hr h0
    go_enter Try.func18, Try.ntmps18
    go_wp2_with fail
    refine (HE.out).mono ?_
    rintro e w1 ⟨rfl, h1⟩
    have H1 := Lib.hid h1
    clear h1
    go_wp2_with fail
    refine (HR.out _ (HS.out.far H1.out)).mono ?_
    rintro e w2 ⟨rfl, h2⟩
    have H2 := Lib.hid h2
    clear h2
    go_wp2
    go_ret
    exact ⟨rfl, H2.out.1, (H1.out.up (by simp)).trans H2.out.2⟩
end Go.Proofs.Ytjmbmhjhnoiclaa
