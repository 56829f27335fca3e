/- Layer 6: both stacks, the program's and the document's, side by side. Condition: the blocks are such stacks. -/
import Derived.Test.YtjmbmhjhnoiclaaS6N
import Derived.Test.YtjmbmhjhnoiclaaBit
namespace Go.Proofs.Ytjmbmhjhnoiclaa
open Go.RowKit
set_option linter.unusedVariables false

/-- The program's stack of the cells L in block p, the document's of M in block q, both new since w. -/
structure Tm (w V W : World) (p q : Nat) (L M : List Int) : Prop where
  s : St W p L
  r : ∃ A cap, Rf W p q M A cap
  lp : w.heap.size ≤ p
  lq : w.heap.size ≤ q
  m : Mod [] w W
  f : Mod [p, q] V W
theorem Tm.far {w V W W' : World} {p q : Nat} {L M : List Int} (h : Tm w V W p q L M) (k : Mod [] W W') : Tm w V W' p q L M := by
  obtain ⟨A, cap, hr⟩ := h.r
  exact ⟨h.s.far k, ⟨A, cap, hr.far k⟩, h.lp, h.lq, h.m.far k, h.f.far k⟩
theorem Tm.one {w V W W' : World} {p q : Nat} {L L' M : List Int} (h : Tm w V W p q L M) (s : St W' p L') (k : Mod [p] W W') : Tm w V W' p q L' M := by
  obtain ⟨A, cap, hr⟩ := h.r
  exact ⟨s, ⟨A, cap, hr.prog k⟩, h.lp, h.lq, h.m.far1 k h.lp, h.f.trans (k.up (by simp))⟩
theorem Tm.two {w V W W' : World} {p q : Nat} {L M M' : List Int} (h : Tm w V W p q L M) (r : ∃ A cap, Rf W' p q M' A cap) (k : Mod [q] W W') : Tm w V W' p q L M' := by
  obtain ⟨A, cap, hr⟩ := h.r
  exact ⟨h.s.mod k (by simpa [eq_comm] using hr.ne), r, h.lp, h.lq, h.m.far1 k h.lq, h.f.trans (k.up (by simp))⟩
theorem Tm.re {w V W : World} {p q : Nat} {L M : List Int} (h : Tm w V W p q L M) : Tm w W W p q L M := ⟨h.s, h.r, h.lp, h.lq, h.m, Mod.refl _ _⟩
theorem Tm.push1 {w V W : World} {p q : Nat} {L M : List Int} (h : Tm w V W p q L M) (x : Int) (hx : I64 x) :
    Calls Try.prog 20 #[Pt p, .int .i64 x] W fun e w' => e = .returned (.int .i64 (putL [x] L).1) ∧ Tm w V w' p q (putL [x] L).2 M ∧ Mod [p] W w' := (push_calls h.s x hx).mono fun e w' ⟨he, a, b⟩ => ⟨he, h.one a b, b⟩
theorem Tm.push2 {w V W : World} {p q : Nat} {L M : List Int} (h : Tm w V W p q L M) (x : Int) (hx : I64 x) :
    Calls Try.prog 25 #[Pt q, .int .i64 x] W fun e w' => e = .returned (.int .i64 (putL [x] M).1) ∧ Tm w V w' p q L (putL [x] M).2 ∧ Mod [q] W w' := by
  obtain ⟨A, cap, hr⟩ := h.r
  exact (rpush_calls hr h.s.lp x hx).mono fun e w' ⟨he, a, b⟩ => ⟨he, h.two a b, b⟩
theorem Tm.put1 {w V W : World} {p q : Nat} {L M : List Int} (h : Tm w V W p q L M) {A : Option Addr} {n : Nat} (cap : Nat) {X : List Int} (hs : Sl W A X) (hn : n = X.length) (hI : ∀ x ∈ X, I64 x) (hm : n ≤ 9223372036854775807) :
    Calls Try.prog 17 #[Pt p, .slice A n cap] W fun e w' => e = .returned (.int .i64 (putL X L).1) ∧ Tm w V w' p q (putL X L).2 M ∧ Mod [p] W w' := (put_calls h.s cap hs hn hI hm).mono fun e w' ⟨he, a, b⟩ => ⟨he, h.one a b, b⟩
theorem Tm.put2 {w V W : World} {p q : Nat} {L M : List Int} (h : Tm w V W p q L M) {B : Option Addr} {m c : Nat} {Z : List Int} (hs : Sl W B Z) (hm : m = Z.length) (hB0 : B = none → c = 0) (hB : ∀ x, B = some x → x.block < W.heap.size) (hI : ∀ x ∈ Z, I64 x) (hmm : m ≤ 9223372036854775807) :
    Calls Try.prog 28 #[Pt q, .slice B m c] W fun e w' => e = .returned (.int .i64 (putL Z M).1) ∧ Tm w V w' p q L (putL Z M).2 ∧ Mod [q] W w' := by
  obtain ⟨A, cap, hr⟩ := h.r
  exact (rput_calls hr h.s.lp hs hm hB0 hB hI hmm).mono fun e w' ⟨he, a, b⟩ => ⟨he, h.two a b, b⟩
theorem Tm.cut1 {w V W : World} {p q : Nat} {L M : List Int} (h : Tm w V W p q L M) (n : Int) (hn : I64 n) :
    Calls Try.prog 21 #[Pt p, .int .i64 n] W fun e w' => e = .returned (.tuple #[]) ∧ Tm w V w' p q (cutL (clamp n) L) M ∧ Mod [p] W w' := (cut_calls h.s n hn).mono fun e w' ⟨he, a, b⟩ => ⟨he, h.one a b, b⟩
theorem Tm.cut2 {w V W : World} {p q : Nat} {L M : List Int} (h : Tm w V W p q L M) (n : Int) (hn : I64 n) :
    Calls Try.prog 29 #[Pt q, .int .i64 n] W fun e w' => e = .returned (.tuple #[]) ∧ Tm w V w' p q L (cutL (clamp n) M) ∧ Mod [q] W w' := by
  obtain ⟨A, cap, hr⟩ := h.r
  exact (rcut_calls hr h.s.lp n hn).mono fun e w' ⟨he, a, b⟩ => ⟨he, h.two a b, b⟩
theorem Tm.do1 {w V W : World} {p q : Nat} {L M : List Int} (h : Tm w V W p q L M) (op : Int) :
    Calls Try.prog 18 #[Pt p, .int .i64 op] W fun e w' => e = .returned (.int .i64 (doL op L).1) ∧ Tm w V w' p q (doL op L).2 M ∧ Mod [p] W w' := (do_calls h.s op).mono fun e w' ⟨he, a, b⟩ => ⟨he, h.one a b, b⟩
theorem Tm.do2 {w V W : World} {p q : Nat} {L M : List Int} (h : Tm w V W p q L M) (op : Int) :
    Calls Try.prog 30 #[Pt q, .int .i64 op] W fun e w' => e = .returned (.int .i64 (doL op M).1) ∧ Tm w V w' p q L (doL op M).2 ∧ Mod [q] W w' := by
  obtain ⟨A, cap, hr⟩ := h.r
  exact (rdo_calls hr h.s.lp op).mono fun e w' ⟨he, a, b⟩ => ⟨he, h.two a b, b⟩
/-- What Pop tells, and leaves. -/
def popL (L : List Int) : (Int × Int) × List Int := if L = [] then ((0, -4), []) else ((L.getLastD 0, 0), L.dropLast)
theorem popL_nil : popL [] = ((0, -4), []) := rfl
theorem popL_snoc (R : List Int) (x : Int) : popL (R ++ [x]) = ((x, 0), R) := by unfold popL; simp [List.getLastD_eq_getLast?]
theorem Tm.pop1 {w V W : World} {p q : Nat} {L M : List Int} (h : Tm w V W p q L M) :
    Calls Try.prog 22 #[Pt p] W fun e w' => e = .returned (.tuple #[.int .i64 (popL L).1.1, .int .i64 (popL L).1.2]) ∧ Tm w V w' p q (popL L).2 M := by
  by_cases h0 : L = []
  · subst h0
    exact (pop_none h.s).mono fun e w' ⟨he, hw⟩ => ⟨he, hw ▸ h⟩
  · obtain ⟨R, u, rfl⟩ : ∃ R u, L = R ++ [u] := ⟨L.dropLast, L.getLast h0, (List.dropLast_concat_getLast h0).symm⟩
    rw [popL_snoc]
    exact (pop_some h.s).mono fun e w' ⟨he, a, b⟩ => ⟨he, h.one a b⟩
theorem Tm.pop2 {w V W : World} {p q : Nat} {L M : List Int} (h : Tm w V W p q L M) :
    Calls Try.prog 26 #[Pt q] W fun e w' => e = .returned (.tuple #[.int .i64 (popL M).1.1, .int .i64 (popL M).1.2]) ∧ Tm w V w' p q L (popL M).2 := by
  obtain ⟨A, cap, hr⟩ := h.r
  by_cases h0 : M = []
  · subst h0
    exact (rpop_none hr).mono fun e w' ⟨he, hw⟩ => ⟨he, hw ▸ h⟩
  · obtain ⟨R, u, rfl⟩ : ∃ R u, M = R ++ [u] := ⟨M.dropLast, M.getLast h0, (List.dropLast_concat_getLast h0).symm⟩
    rw [popL_snoc]
    exact (rpop_some hr).mono fun e w' ⟨he, a, b⟩ => ⟨he, h.two a b⟩
theorem and_nat (m : Nat) (hm : m < 4096) (y : Int) : ∃ n : Nat, bits .and .i64 y (m : Int) = (n : Int) ∧ n ≤ m := by
  rw [and_bv]
  have e : (BitVec.ofInt 64 y &&& BitVec.ofInt 64 (m : Int)).toNat ≤ m := by
    rw [BitVec.toNat_and]
    refine Nat.le_trans Nat.and_le_right ?_
    simp
    omega
  refine ⟨(BitVec.ofInt 64 y &&& BitVec.ofInt 64 (m : Int)).toNat, ?_, e⟩
  rw [BitVec.toInt_eq_toNat_of_lt (by omega)]
/-- What Take tells, and leaves. -/
def takeL (n : Nat) (L : List Int) : (List Int × Int) × List Int := if L.length < n then (([], -4), L) else ((L.drop (L.length - n), 0), L.take (L.length - n))
def Took (w V W : World) (p q : Nat) (L M T : List Int) (u : Int) (e : Ending) (w' : World) : Prop := ∃ A c, e = .returned (.tuple #[.slice A T.length c, .int .i64 u]) ∧ Sl w' A T ∧ (∀ x, A = some x → W.heap.size ≤ x.block) ∧ Tm w V w' p q L M
theorem Tm.take1 {w V W : World} {p q : Nat} {L M : List Int} (h : Tm w V W p q L M) (n : Nat) (hn : n ≤ 100) :
    Calls Try.prog 23 #[Pt p, .int .i64 (n : Int)] W fun e w' => Took w V W p q (takeL n L).2 M (takeL n L).1.1 (takeL n L).1.2 e w' ∧ Mod [p] W w' := by
  unfold takeL
  by_cases hb : L.length < n
  · rw [if_pos hb]
    exact (take_under h.s n (by unfold I64; omega) (by omega)).mono fun e w' ⟨he, hw⟩ => ⟨⟨none, 0, he, Sl.nil _ _, by simp, hw ▸ h⟩, hw ▸ Mod.refl _ _⟩
  · rw [if_neg hb]
    refine (take_ok h.s n (by omega)).mono fun e w' ⟨b, c, he, ho, hbb, hs, hm⟩ => ⟨⟨some ⟨b, 0, none⟩, c, ?_, ho.sl, fun x hx => by injection hx with hx; subst hx; exact hbb, h.one hs hm⟩, hm⟩
    rw [he, List.length_drop, show L.length - (L.length - n) = n by omega]
theorem takeL_len (n : Nat) (L : List Int) : (takeL n L).1.1.length ≤ n := by
  unfold takeL
  split
  · simp
  · simp
    omega
theorem Tm.take2 {w V W : World} {p q : Nat} {L M : List Int} (h : Tm w V W p q L M) (n : Nat) (hn : n ≤ 100) :
    Calls Try.prog 27 #[Pt q, .int .i64 (n : Int)] W fun e w' => Took w V W p q L (takeL n M).2 (takeL n M).1.1 (takeL n M).1.2 e w' ∧ Mod [q] W w' := by
  obtain ⟨A, cap, hr⟩ := h.r
  unfold takeL
  by_cases hb : M.length < n
  · rw [if_pos hb]
    exact (rtake_under hr n (by unfold I64; omega) (by omega)).mono fun e w' ⟨he, hw⟩ => ⟨⟨none, 0, he, Sl.nil _ _, by simp, hw ▸ h⟩, hw ▸ Mod.refl _ _⟩
  · rw [if_neg hb]
    refine (rtake_ok hr h.s.lp n (by omega)).mono fun e w' ⟨b, c, he, ho, hbb, hs, hm⟩ => ⟨⟨some ⟨b, 0, none⟩, c, ?_, ho.sl, fun x hx => by injection hx with hx; subst hx; exact hbb, h.two hs hm⟩, hm⟩
    rw [he, List.length_drop, show M.length - (M.length - n) = n by omega]
end Go.Proofs.Ytjmbmhjhnoiclaa
