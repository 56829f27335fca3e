/- Layer 9: the first acts, with short texts (few). Condition: the argument is a slice of acts. -/
import Derived.Test.YtldnpppbnakcoaaD9K
import Derived.Test.YtldnpppbnakcoaaDMany
namespace Go.Proofs.Ytldnpppbnakcoaa
open Go.RowKit
set_option linter.unusedVariables false

/-- What few makes: a row of acts of one's own, at most 80, with texts of at most 40 bytes and 12 numbers. -/
structure ShortA (w : World) (a : Ac) : Prop where
  s : a.s.size ≤ 40
  x : I64 a.x
  l : IntsOf w a.A a.n a.cap
  n : a.n ≤ 12
  m1 : I64 a.a
  m2 : I64 a.b
theorem ShortA.far {w w' : World} {a : Ac} (h : ShortA w a) (m : Mod [] w w') : ShortA w' a := ⟨h.s, h.x, h.l.far m, h.n, h.m1, h.m2⟩
def FewP (w0 w : World) (e : Ending) (w' : World) : Prop := ∃ v K, e = .returned v ∧ ActRow w' w.heap.size v K ∧ K.length ≤ 80 ∧ (∀ a ∈ K, ShortA w0 a) ∧ Mod [] w w'
set_option maxHeartbeats 8000000 in
set_option maxRecDepth 100000 in
theorem few_calls (w0 w : World) (m0 : Mod [] w0 w) (A : Option Addr) (len cap : Nat) (hA : ActsIn w0 A len) (hn : len ≤ 9223372036854775807) :
    Calls Try.prog 12 #[.slice A len cap] w (FewP w0 w) := by
  have M0 := Lib.hid m0
  clear m0
  have HA := Lib.hid hA
  have hM := Mod.refl [] w
  clear hA
  go_enter Try.func12, Try.ntmps12
  go_wp2_with fail
  go_loopw [3, 8] (fun v i wr => ∃ (j : Nat) (K : List Ac), i = .int .i64 (j : Int) ∧ j ≤ len ∧ K.length = min j 80 ∧ ActRow wr w.heap.size v K ∧ RowKit.Hid (∀ a ∈ K, ShortA w0 a) ∧ Mod [] w wr) (fun _ i _ => len - (intOf i).toNat)
  case atStart => exact ⟨0, [], rfl, by omega, rfl, ActRow.nil _ _, Lib.hid (fun a ha => by cases ha), hM⟩
  case round =>
    clear hM
    obtain ⟨j, K, rfl, hj, hK, hrow, hs, hm⟩ := hrel
    by_cases hlt : j < len
    · have hltI : (j : Int) < (len : Int) := by omega
      obtain ⟨b, o, a, hAx, hat, hw⟩ := HA.out j hlt
      have hat2 := hat.far (M0.out.trans hm)
      have c0 := hat2.c0
      have c1 := hat2.c1
      have c2 := hat2.c2
      have c3 := hat2.c3
      have c4 := hat2.c4
      have c5 := hat2.c5
      have HR := Lib.hid hrow
      have HM := Lib.hid hm
      have HW := Lib.hid hw
      have HK := Lib.hid hK
      subst hAx
      clear hat hat2 hrow hm hw hK
      by_cases h80 : j < 80
      · have h80I : (j : Int) < 80 := by omega
        obtain ⟨ac, hac⟩ : ∃ c, c = a.c := ⟨_, rfl⟩
        obtain ⟨at9, hat9⟩ : ∃ c, c = a.s := ⟨_, rfl⟩
        obtain ⟨ax, hax⟩ : ∃ c, c = a.x := ⟨_, rfl⟩
        obtain ⟨aA, haA⟩ : ∃ c, c = a.A := ⟨_, rfl⟩
        obtain ⟨an, han⟩ : ∃ c, c = a.n := ⟨_, rfl⟩
        obtain ⟨acap, hacap⟩ : ∃ c, c = a.cap := ⟨_, rfl⟩
        obtain ⟨aa, haa⟩ : ∃ c, c = a.a := ⟨_, rfl⟩
        obtain ⟨ab, hab⟩ : ∃ c, c = a.b := ⟨_, rfl⟩
        have hwl := HW.out.l
        have hws := HW.out.s
        have h9 : ShortA w0 ⟨ac, at9.extract 0 (min at9.size 40), ax, aA, min an 12, acap, aa, ab⟩ := by
          subst hac hat9 hax haA han hacap haa hab
          exact ⟨by show (a.s.extract 0 (min a.s.size 40)).size ≤ 40; rw [ByteArray.size_extract]; omega, HW.out.x, hwl.take (min a.n 12) (Nat.min_le_left _ _), by show min a.n 12 ≤ 12; omega, HW.out.m1, HW.out.m2⟩
        have hcap : an ≤ acap ∧ acap ≤ 9223372036854775807 := by
          obtain ⟨_, _, _, _, _, h5, h6⟩ := hwl
          exact ⟨by omega, by omega⟩
        have hss : at9.size ≤ 9223372036854775807 := by rw [hat9]; exact hws
        rw [← hac] at c0
        rw [← hat9] at c1
        rw [← hax] at c2
        rw [← haA, ← han, ← hacap] at c3
        rw [← haa] at c4
        rw [← hab] at c5
        clear hac hat9 hax haA han hacap haa hab hwl hws HW
        obtain ⟨q, hq⟩ : ∃ q, q = min at9.size 40 := ⟨_, rfl⟩
        have hmin1 : min (at9.size : Int) 40 = (q : Int) := by omega
        have hqs : q ≤ at9.size := by omega
        obtain ⟨m, hm⟩ : ∃ m, m = min an 12 := ⟨_, rfl⟩
        have hmin2 : min (an : Int) 12 = (m : Int) := by omega
        rw [← hq, ← hm] at h9
        obtain ⟨Y, hY⟩ : ∃ Y, at9.extract 0 q = Y := ⟨_, rfl⟩
        rw [hY] at h9
        have hsl := fun W => ints_upto aA an acap m (by omega) W
        have hcap1 := hcap.1
        have hcap2 := hcap.2
        have HB := Lib.hid (show ActRow (((wr.alloc (.cells #[.int .u8 (ac.toNat : Int), .string Y, .int .i64 ax, .slice aA m acap, .int .i64 aa, .int .i64 ab] 33)).alloc (.cells #[.int .u8 (ac.toNat : Int), .string Y, .int .i64 ax, .slice aA m acap, .int .i64 aa, .int .i64 ab] 33)).drew) w.heap.size _ K from (HR.out.far ((Mod.refl [] wr).alloc (.cells #[.int .u8 (ac.toNat : Int), .string Y, .int .i64 ax, .slice aA m acap, .int .i64 aa, .int .i64 ab] 33))).far (((Mod.refl [] _).alloc (.cells #[.int .u8 (ac.toNat : Int), .string Y, .int .i64 ax, .slice aA m acap, .int .i64 aa, .int .i64 ab] 33)).drew))
        have hcn := act_new (wr.alloc (.cells (flatA (⟨ac, Y, ax, aA, m, acap, aa, ab⟩ : Ac)).toArray 33)) (⟨ac, Y, ax, aA, m, acap, aa, ab⟩ : Ac) 33
        rw [size_allocD] at hcn
        have HC := Lib.hid (show ∀ j u, (flatA (⟨ac, Y, ax, aA, m, acap, aa, ab⟩ : Ac))[j]? = some u → (((wr.alloc (.cells #[.int .u8 (ac.toNat : Int), .string Y, .int .i64 ax, .slice aA m acap, .int .i64 aa, .int .i64 ab] 33)).alloc (.cells #[.int .u8 (ac.toNat : Int), .string Y, .int .i64 ax, .slice aA m acap, .int .i64 aa, .int .i64 ab] 33)).drew).cell? ((⟨wr.heap.size + 1, 0, none⟩ : Addr).add j) = some u from hcn)
        have m2 := (HM.out.alloc (.cells (flatA (⟨ac, Y, ax, aA, m, acap, aa, ab⟩ : Ac)).toArray 33)).alloc (.cells (flatA (⟨ac, Y, ax, aA, m, acap, aa, ab⟩ : Ac)).toArray 33)
        have HM2 := Lib.hid (show Mod [] w (((wr.alloc (.cells #[.int .u8 (ac.toNat : Int), .string Y, .int .i64 ax, .slice aA m acap, .int .i64 aa, .int .i64 ab] 33)).alloc (.cells #[.int .u8 (ac.toNat : Int), .string Y, .int .i64 ax, .slice aA m acap, .int .i64 aa, .int .i64 ab] 33)).drew) from m2.drew)
        have hkl : K.length ≤ 80 := by have := HK.out; omega
        have HSH := Lib.hid (show ∀ z ∈ K ++ [(⟨ac, Y, ax, aA, m, acap, aa, ab⟩ : Ac)], ShortA w0 z from fun z hz => (List.mem_append.1 hz).elim (hs.out z) fun hz => by
          rw [List.mem_singleton.1 hz]
          exact h9)
        clear hcn m2 h9 hcap hq hm
        go_upto_region 6 with fail
        go_region
        all_goals
          go_wp2_with (refine wpList_appAct rfl (.tmp 31) (.tmp 33) rfl HB.out HM2.out.size hkl _ 1 (⟨ac, Y, ax, aA, m, acap, aa, ab⟩ : Ac) HC.out rfl rfl ?_)
          intro v' w' b1 b2
          have B1 := Lib.hid b1
          have M1 := Lib.hid (HM2.out.below_of b2 (Nat.le_refl _))
          clear b1 b2
          go_wp2_with fail
          go_roundw
          case rel => exact ⟨j + 1, K ++ [(⟨ac, Y, ax, aA, m, acap, aa, ab⟩ : Ac)], by go_num, by omega, by have := HK.out; simp; omega, B1.out, HSH, M1.out⟩
          case measure => simp [intOf]; omega
      · have h80I : ¬ (j : Int) < 80 := by omega
        have M1 := Lib.hid (HM.out.alloc (.cells (flatA a).toArray 33))
        have B1 := Lib.hid (HR.out.far ((Mod.refl [] wr).alloc (.cells (flatA a).toArray 33)))
        clear h80
        go_wp2_with fail
        go_roundw
        case rel => exact ⟨j + 1, K, by go_num, by omega, by have := HK.out; omega, B1.out, hs, M1.out⟩
        case measure => simp [intOf]; omega
    · have hltI : ¬ (j : Int) < (len : Int) := by omega
      have HR := Lib.hid hrow
      have HM := Lib.hid hm
      have HK := Lib.hid hK
      clear hrow hm hK
      go_wp2_with fail
      go_ret
      exact ⟨_, K, rfl, HR.out, by have := HK.out; omega, hs.out, HM.out⟩
end Go.Proofs.Ytldnpppbnakcoaa
