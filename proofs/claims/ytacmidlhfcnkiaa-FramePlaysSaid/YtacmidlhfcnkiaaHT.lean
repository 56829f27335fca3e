/- Layer 14: the acts that a law takes (few). No condition. -/
import Derived.Test.YtacmidlhfcnkiaaHS
namespace Go.Proofs.Ytacmidlhfcnkiaa
open Go.RowKit Go.ChangeShapes Go.WideShapes
set_option linter.unusedVariables false

/-- An act that a law may take: its locals lie where they came in. -/
def Good (w : World) (c : Ac) : Prop := Ls w c.s c.f.l ∧ c.f.l.length ≤ 1000 ∧ 0 ≤ c.u ∧ c.u ≤ 255
set_option maxRecDepth 100000 in
set_option maxHeartbeats 8000000 in
theorem few_calls {w0 w : World} (m0 : Mod [] w0 w) {A : Option Addr} {len cap : Nat} (R : ActsIn w0 A len cap) :
    Calls Try.prog 12 #[.slice A len cap] w fun e w' => ∃ v O, e = .returned v ∧ Ax w w' v O ∧ Mod [] w w' ∧ ∀ c ∈ O, Good w0 c := by
  have HL : (len : Int) ≤ 9223372036854775807 := by have := R.1; have := R.2.1; omega
  have HR := Lib.hid R
  have HM0 := Lib.hid m0
  clear R m0
  go_enter Try.func12, Try.ntmps12
  go_wp2_with fail
  go_loopw [3, 8] (fun v z wr => ∃ (i : Nat) (O : List Ac), z = .int .i64 (i : Int) ∧ i ≤ len ∧ RowKit.Hid (O.length = min i 200) ∧ RowKit.Hid (Mod [] w wr) ∧ RowKit.Hid (Ax w wr v O) ∧ RowKit.Hid (∀ c ∈ O, Good w0 c)) (fun _ z _ => len - (intOf z).toNat)
  case atStart => exact ⟨0, [], rfl, by omega, Lib.hid (by simp), Lib.hid (Mod.refl [] w), Lib.hid (ax_nil w w), Lib.hid (by simp)⟩
  case round =>
    obtain ⟨i, O, rfl, hi, hN, hM, hX, hO⟩ := hrel
    obtain ⟨A7, c7, rfl, _⟩ := hX.out.slice
    obtain ⟨N, hNN⟩ : ∃ N, N = O.length := ⟨_, rfl⟩
    have HN := Lib.hid hNN
    rw [← hNN] at hX ⊢
    clear hNN
    by_cases hlt : i < len
    · have hiI : (i : Int) < (len : Int) := by omega
      have hi0 : (0 : Int) ≤ (i : Int) := by omega
      obtain ⟨b, o, ⟨u, ⟨k, a, bb, x, y, l⟩, s, n, xx⟩, A5, l5, c5, zs, rfl, hs5, hc, hr5, hu⟩ := HR.out.far (HM0.out.trans hM.out) hlt
      dsimp only at hs5
      subst hs5
      have r0 : wr.cell? ⟨b, o + i * 9, none⟩ = some (.int .u8 u) := hc 0 (by omega)
      have r1 : wr.cell? ⟨b, o + i * 9 + 1, none⟩ = some (.int .i64 k) := hc 1 (by omega)
      have r2 : wr.cell? ⟨b, o + i * 9 + 2, none⟩ = some (.int .i64 a) := hc 2 (by omega)
      have r3 : wr.cell? ⟨b, o + i * 9 + 3, none⟩ = some (.int .i64 bb) := hc 3 (by omega)
      have r4 : wr.cell? ⟨b, o + i * 9 + 4, none⟩ = some (.int .i64 x) := hc 4 (by omega)
      have r5 : wr.cell? ⟨b, o + i * 9 + 5, none⟩ = some (.int .i64 y) := hc 5 (by omega)
      have r6 : wr.cell? ⟨b, o + i * 9 + 6, none⟩ = some (.slice A5 l5 c5) := hc 6 (by omega)
      have r7 : wr.cell? ⟨b, o + i * 9 + 7, none⟩ = some (.int .i64 n) := hc 7 (by omega)
      have r8 : wr.cell? ⟨b, o + i * 9 + 8, none⟩ = some (.int .i64 xx) := hc 8 (by omega)
      obtain ⟨X5, n5, C5⟩ := hr5.came 20
      have hup := C5.h
      have hmin : min (l5 : Int) 20 = (n5 : Int) := by have := C5.e; omega
      have hn5 : (n5 : Int) ≤ 20 := by have := C5.e; omega
      have hl5 : (l5 : Int) ≤ 9223372036854775807 := by have := C5.l; have := C5.m; omega
      have HS5 := Lib.hid (show Ls w0 (.slice A5 n5 c5) X5 from ⟨A5, c5, by rw [C5.n], C5.a, by rw [C5.n]; exact C5.c, C5.m, C5.s⟩)
      have HX5 := Lib.hid (show X5.length ≤ 1000 by have := C5.n; have := C5.e; omega)
      have HU := Lib.hid hu
      clear hc hr5 C5 hu
      by_cases h60 : i < 200
      · have h60I : (i : Int) < 200 := by omega
        have HNi := Lib.hid (show N = i by have := hN.out; have := HN.out; omega)
        have m9 := al_mod wr (.cells (cellsY u ⟨k, a, bb, x, y, X5⟩ (.slice A5 n5 c5) n xx) TA)
        have b9 := (MapKept.heap_alloc wr (.cells (cellsY u ⟨k, a, bb, x, y, X5⟩ (.slice A5 n5 c5) n xx) TA)).1
        obtain ⟨x0, x1, x2, x3, x4, x5, x6, x7, x8⟩ := nine_at b9
        have m09 := hM.out.trans m9
        obtain ⟨A8, c8, w8, hrun, hX8, m8, hown8⟩ := (hX.out.far m9).app m09 (c := ⟨u, ⟨k, a, bb, x, y, X5⟩, .slice A5 n5 c5, n, xx⟩) rfl (by have := HN.out; have := HNi.out; omega) 22
        have HM8 := Lib.hid (m09.then m8 fun g hg => Or.inr (hX.out.new g (by simpa using hg)))
        have HX8 := Lib.hid hX8
        have HO8 := Lib.hid (show ∀ c ∈ O ++ [(⟨u, ⟨k, a, bb, x, y, X5⟩, .slice A5 n5 c5, n, xx⟩ : Ac)], Good w0 c from fun r hr => by
          rcases List.mem_append.1 hr with hr | hr
          · exact hO.out r hr
          · rw [List.mem_singleton.1 hr]
            exact ⟨HS5.out, HX5.out, HU.out⟩)
        rw [size_allocI] at hrun
        dsimp only [cellsY] at hrun x0 x1 x2 x3 x4 x5 x6 x7 x8
        clear m9 b9 m09 hX8 m8 hown8 hX hM hO h60
        go_wp2_with fail
        go_roundw
        case rel => exact ⟨i + 1, O ++ [⟨u, ⟨k, a, bb, x, y, X5⟩, .slice A5 n5 c5, n, xx⟩], by go_num, by omega, Lib.hid (by have := HN.out; have := HNi.out; simp; omega), HM8, HX8, HO8⟩
        case measure => simp [intOf]; omega
      · have h60I : ¬ (i : Int) < 200 := by omega
        have HM8 := Lib.hid (hM.out.trans (al_mod wr (.cells (cellsY u ⟨k, a, bb, x, y, X5⟩ (.slice A5 l5 c5) n xx) TA)))
        have HX8 := Lib.hid (hX.out.far (al_mod wr (.cells (cellsY u ⟨k, a, bb, x, y, X5⟩ (.slice A5 l5 c5) n xx) TA)))
        dsimp only [cellsY] at HM8 HX8
        clear hX hM
        go_wp2_with fail
        go_roundw
        case rel => exact ⟨i + 1, O, by go_num, by omega, Lib.hid (by have := HN.out; have := hN.out; omega), HM8, HX8, hO⟩
        case measure => simp [intOf]; omega
    · have hiI : ¬ (i : Int) < (len : Int) := by omega
      have HE := Lib.hid (And.intro hX.out (And.intro hM.out hO.out))
      clear hX hM hO
      go_wp2_with fail
      go_ret
      exact ⟨_, rfl, O, HE.out.1, HE.out.2.1, HE.out.2.2⟩
end Go.Proofs.Ytacmidlhfcnkiaa
