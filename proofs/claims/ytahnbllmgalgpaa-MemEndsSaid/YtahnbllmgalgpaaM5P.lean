/- Layer 5: MemBytes's walk. Condition: the arguments are a slice of bytes and numbers of their kinds. -/
import Derived.Test.YtahnbllmgalgpaaM5M
namespace Go.Proofs.Ytahnbllmgalgpaa
open Go.RowKit
set_option linter.unusedVariables false

theorem text_back {w : World} {p q : Nat} {B : List UInt8} {h : Int} (o n : Nat) (s : List UInt8) (hn : n = s.length) (ho : o + s.length ≤ B.length) (m : Mm w p q (splice B o s) h) :
    Calls Try.prog 23 #[Pt p, .int .i64 (o : Int), .int .i64 (n : Int)] w fun e w' => e = .returned (.tuple #[.string (textB s), .int .i64 0]) ∧ w = w' := by
  subst hn
  have := text_ok m o s.length (by rw [splice_len ho]; exact ho)
  rw [take_splice ho] at this
  exact this
theorem getbyte_lit {w : World} {p q : Nat} {B : List UInt8} {h : Int} (m : Mm w p q B h) (o : Nat) (a : Int) (ha : a = (o : Int)) (ho : o < B.length) (x : UInt8) (hx : B[o] = x) :
    Calls Try.prog 22 #[Pt p, .int .i64 a] w fun e w' => e = .returned (.tuple #[.int .u8 (x.toNat : Int), .int .i64 0]) ∧ w = w' := by
  subst ha hx
  exact getbyte_ok m o ho
theorem get_lit {w : World} {p q : Nat} {B : List UInt8} {h : Int} (m : Mm w p q B h) (o : Nat) (a : Int) (ha : a = (o : Int)) (ho : o + 8 ≤ B.length) (h8 : o % 8 = 0) :
    Calls Try.prog 19 #[Pt p, .int .i64 a] w fun e w' => e = .returned (.tuple #[.int .i64 (cellOf ((B.drop o).take 8)), .int .i64 0]) ∧ w = w' := by
  subst ha
  exact get_ok m o ho h8
theorem cell_byte (B : List UInt8) (j : Nat) (h : j / 8 * 8 + 8 ≤ B.length) : IntKind.u64.wrap (cellOf ((B.drop (j / 8 * 8)).take 8)) / 2 ^ (8 * (j % 8)) % 256 = ((B[j]'(by omega)).toNat : Int) := by
  have hl : ((B.drop (j / 8 * 8)).take 8).length = 8 := by simp; omega
  have h2 := leNat_lt ((B.drop (j / 8 * 8)).take 8)
  rw [hl] at h2
  rw [shr_byte _ _ (Nat.mod_lt _ (by omega)), cellOf, natOf_wrap _ (by simpa using h2), leNat_get _ _ (by rw [hl]; exact Nat.mod_lt _ (by omega))]
  simp only [List.getElem_take, List.getElem_drop]
  congr 2
  congr 1
  omega
set_option maxRecDepth 100000 in
theorem bytes_walk (w : World) (A : Option Addr) (len cap : Nat) (zs : List Int) (a b : Int) (R0 : Row .u8 w A len cap zs) (ha : (Lit.int .u16 a).wf = true) (hb : (Lit.int .u8 b).wf = true) :
    Calls Try.prog 8 #[.slice A len cap, .int .u16 a, .int .u8 b] w fun e w' => e = .returned (.bool true) ∧ Ext w w' := by
  obtain ⟨s, hcut⟩ := R0.cut 200 200 rfl
  have HC := Lib.hid hcut
  have hle := R0.le
  have hsl := hcut.len
  have hu := bounds_u16 ha
  obtain ⟨c, hc⟩ : ∃ c : UInt8, b = (c.toNat : Int) := ⟨_, (u8_nat hb).symm⟩
  subst hc
  obtain ⟨o, ho⟩ : ∃ o : Nat, a % 500 = (o : Int) := ⟨(a % 500).toNat, by omega⟩
  have o1 : o < 500 := by omega
  have HO := Lib.hid ho
  clear hcut R0 ha hb ho
  have hS := Lib.hid (shown_calls w)
  go_enter Try.func8, Try.ntmps8
  go_wp2_with fail
  refine (hS.out).mono ?_
  rintro e w0 ⟨rfl, hx0⟩
  have hN := Lib.hid (new_lit 1024 1024 rfl w0 (by omega) (by omega) (by omega))
  go_wp2_with fail
  refine (hN.out).mono ?_
  rintro e w1 ⟨p, q, rfl, hm, hx1, hp, hq⟩
  have HX := Lib.hid (hx0.trans hx1)
  have HM := Lib.hid hm
  have HP := Lib.hid (And.intro (Nat.le_trans hx0.1.size hp) (Nat.le_trans hx0.1.size hq))
  clear hx0 hx1 hm hN hS hp hq
  have h1 := HC.out.a1 w1
  have h2 := HC.out.a2 w1
  have h3 := HC.out.b1 w1 HX.out
  have h4 := HC.out.b2 w1 HX.out
  go_upto_region 5 with fail
  go_cut [10] (fun u wx => u = .string (textB s) ∧ w1 = wx)
  case first =>
    go_wp2_with fail
    all_goals
      go_meet
      exact ⟨rfl, rfl⟩
  case rest =>
    obtain ⟨rfl, rfl⟩ := hcut
    clear h1 h2 h3 h4
    have hz : (zeros 1024).length = 1024 := List.length_replicate
    have hW := write_ok HM.out o (textB s) (by rw [hz, textB_size]; omega)
    rw [textB_list] at hW
    have HW := Lib.hid hW
    have hl1 := splice_len (B := zeros 1024) (o := o) (l := s) (by rw [hz]; omega)
    rw [hz] at hl1
    have HL1 := Lib.hid hl1
    have ho := HO.out
    obtain ⟨S, hS⟩ : ∃ S, S = textB s := ⟨_, rfl⟩
    obtain ⟨n, hn⟩ : ∃ n, n = s.length := ⟨_, rfl⟩
    have hs2 : S.size = n := by rw [hS, textB_size, hn]
    have hn1 : n ≤ 200 := by omega
    have HZ := Lib.hid (show o + s.length ≤ (zeros 1024).length by rw [hz]; omega)
    rw [← hS] at HW ⊢
    have HS := Lib.hid hS
    have HN := Lib.hid hn
    clear HM hW hz hl1 HC hsl hS hn
    go_wp2_with fail
    refine (HW.out).mono ?_
    rintro e w2 ⟨rfl, hm, hk⟩
    have HK := Lib.hid hk
    have HM := Lib.hid hm
    have hT := text_back o n s HN.out HZ.out hm
    rw [← HS.out] at hT
    have HT := Lib.hid hT
    clear HW hm hk hT
    go_wp2_with ((with_reducible refine (HT.out).mono ?_); rintro e w' ⟨rfl, rfl⟩)
    go_loop [58] (fun i => ∃ k : Nat, k ≤ n ∧ i = .int .i64 k) (fun i => n - (intOf i).toNat)
    case atStart => exact ⟨0, by omega, rfl⟩
    case round =>
      obtain ⟨k, hk, rfl⟩ := hrel
      by_cases hlt : k < n
      · have hSk : k < S.size := by omega
        have hks : k < s.length := by rw [← HN.out]; exact hlt
        have hj : o + k < (splice (zeros 1024) o s).length := by rw [HL1.out]; omega
        have hx : (splice (zeros 1024) o s)[o + k] = S[k]'hSk := by
          have g := splice_get HZ.out (o + k)
          rw [List.getElem?_eq_getElem hj, if_pos (by omega), List.getElem?_eq_getElem (by omega), Option.some.injEq] at g
          rw [g]
          have := HS.out
          subst this
          rw [textB_get]
          simp only [Nat.add_sub_cancel_left]
        have HG := Lib.hid (getbyte_lit HM.out (o + k) ((o : Int) + (k : Int)) (by omega) hj _ hx)
        have HGC := get_lit HM.out ((o + k) / 8 * 8) (((o : Int) + (k : Int)) / 8 * 8) (by omega) (by rw [HL1.out]; omega) (by omega)
        have hcb := cell_byte (splice (zeros 1024) o s) (o + k) (by rw [HL1.out]; omega)
        rw [hx] at hcb
        obtain ⟨y, hy⟩ : ∃ y, y = cellOf (((splice (zeros 1024) o s).drop ((o + k) / 8 * 8)).take 8) := ⟨_, rfl⟩
        rw [← hy] at HGC hcb
        have HC2 := Lib.hid HGC
        have hv := ne_false hcb
        clear HGC hcb hy hx hj hks
        go_wp2_with (first | ((with_reducible refine (HG.out).mono ?_); rintro e w' ⟨rfl, rfl⟩) | ((with_reducible refine (HC2.out).mono ?_); rintro e w' ⟨rfl, rfl⟩))
        go_round
        case rel => exact ⟨k + 1, by omega, by go_num⟩
        case measure => simp [intOf]; omega
      · have hk2 : k = n := by omega
        subst hk2
        have HF := Lib.hid (fill_ok HM.out o k c (by rw [HL1.out]; omega))
        have hss : (S.toList == S.toList) = true := by simp
        clear hk hlt HM HT
        go_wp2_with fail
        refine (HF.out).mono ?_
        rintro e w3 ⟨rfl, hm, hkp⟩
        have HX3 := Lib.hid (HX.out.kept (HK.out.trans hkp) HP.out.1 HP.out.2)
        have hT := text_back o k (List.replicate k c) (by simp) (by rw [HL1.out]; simp; omega) hm
        obtain ⟨U, hU⟩ : ∃ U, U = textB (List.replicate k c) := ⟨_, rfl⟩
        have hus : U.size = k := by rw [hU, textB_size]; simp
        have hug : ∀ j (hj : j < U.size), (((U[j]'hj).toNat : Int) != (c.toNat : Int)) = false := fun j hj => by
          subst hU
          refine ne_false ?_
          rw [textB_get, List.getElem_replicate]
        rw [← hU] at hT
        have HT := Lib.hid hT
        have HU := Lib.hid hug
        clear HF hm hkp HX HK hT hug hU
        go_wp2_with ((with_reducible refine (HT.out).mono ?_); rintro e w' ⟨rfl, rfl⟩)
        go_loop [122] (fun i => ∃ j : Nat, j ≤ k ∧ i = .int .i64 j) (fun i => k - (intOf i).toNat)
        case atStart => exact ⟨0, by omega, rfl⟩
        case round =>
          obtain ⟨j, hj, rfl⟩ := hrel
          by_cases hlt : j < k
          · have hju : j < U.size := by omega
            have hv := HU.out j hju
            go_wp2
            go_round
            case rel => exact ⟨j + 1, by omega, by go_num⟩
            case measure => simp [intOf]; omega
          · have hk2 : j = k := by omega
            subst hk2
            clear hj hlt
            go_wp2
            go_ret
            exact ⟨rfl, HX3.out⟩
end Go.Proofs.Ytahnbllmgalgpaa
