/-
  WALKS: words multiplied.
-/
import Derived.Test.YtcbdnnboddahkaaAdd
namespace Go.Proofs.Ytcbdnnboddahkaa.Ws
open Go.RowKit
set_option linter.unusedVariables false
set_option maxRecDepth 100000
theorem mul_le_u32 (x y : Nat) (hx : x < 4294967296) (hy : y < 4294967296) : x * y ≤ 18446744065119617025 := by
  have : x * y ≤ 4294967295 * 4294967295 := Nat.mul_le_mul (by omega) (by omega)
  omega
set_option maxHeartbeats 2000000 in
theorem mul_any (A C : Option Addr) (c d : Nat) (xs ys : List Nat) (w : World) (hx : Sl w .u32 A c xs) (hy : Sl w .u32 C d ys) (bx : ∀ x ∈ xs, x < 4294967296) (bz : ∀ x ∈ ys, x < 4294967296) (hlx : xs.length ≤ 4294967296) (hly : ys.length ≤ 4294967296) :
    Calls Try.prog 103 #[.slice A xs.length c, .slice C ys.length d] w fun e w' => SlOut w .u32 (W (val 4294967296 xs * val 4294967296 ys)) e w' := by
  have hmk := makeW (xs.length + ys.length) (by omega) (xs.length + ys.length) (by omega)
  obtain ⟨hrx, hcx, hmx, _⟩ := hx
  obtain ⟨hry, hcy, hmy, _⟩ := hy
  have HX := Lib.hid hrx
  have HY := Lib.hid hry
  have BX := Lib.hid bx
  have BY := Lib.hid bz
  clear hrx hry bx bz
  go_enter Try.func103, Try.ntmps103
  go_wp2
  go_loopw [6, 7, 8, 9, 10, 11, 20] (fun _ _ _ _ _ _ t20 wr => ∃ (i : Nat) (zs : List Nat), (MulOut 4294967296 xs ys zs i ∧ i ≤ xs.length ∧ Ar wr w.heap.size .u32 113 zs ∧ Below w.heap.size w wr) ∧ t20 = .int .i64 i) (fun _ _ _ _ _ _ t20 _ => xs.length - (intOf t20).toNat)
  case atStart => exact ⟨0, _, ⟨MulOut.start (by decide) xs ys, by omega, Ar.new' _ _ _ _, (Below.refl _ _).alloc (Nat.le_refl _) _⟩, rfl⟩
  case round =>
    obtain ⟨i, zs, ⟨hinv, hi, har, hbel⟩, rfl⟩ := hrel
    obtain ⟨wo, rfl⟩ : ∃ wo : World, wo = wr := ⟨_, rfl⟩
    have HI := Lib.hid hinv
    have HA := Lib.hid har
    have HB := Lib.hid hbel
    clear hinv har hbel
    by_cases hlt : i < xs.length
    · obtain ⟨b, o, x, rfl, EX, hcell, hb⟩ := (HX.out.below HB.out).at_ hlt
      have hxb : x < 4294967296 := by rw [← EX.out]; exact getD_lt BX.out (by decide) i
      go_wp2
      go_loopw [8, 9, 10, 11, 27] (fun t8 _ _ _ t27 wr => ∃ (j cy : Nat) (us : List Nat), (MulIn 4294967296 xs ys us i j cy x ∧ j ≤ ys.length ∧ Ar wr w.heap.size .u32 113 us ∧ Below w.heap.size w wr) ∧ t8 = .int .u64 cy ∧ t27 = .int .i64 j) (fun _ _ _ _ t27 _ => ys.length - (intOf t27).toNat)
      case atStart => exact ⟨0, 0, zs, ⟨HI.out.begin (by decide) x, by omega, HA.out, HB.out⟩, rfl, rfl⟩
      case round =>
        obtain ⟨j, cy, us, ⟨hinv, hj, har, hbel⟩, rfl, rfl⟩ := hrel
        have hcy1 := hinv.2.2.1
        have hul := hinv.2.1
        have HJ := Lib.hid hinv
        have HC := Lib.hid har
        have HD := Lib.hid hbel
        have HU := Lib.hid hul
        clear hinv har hbel hul
        by_cases hlj : j < ys.length
        · obtain ⟨b', o', y, rfl, EY, hcell', hb'⟩ := (HY.out.below HD.out).at_ hlj
          have hyb : y < 4294967296 := by rw [← EY.out]; exact getD_lt BY.out (by decide) j
          obtain ⟨z, EZ, hz⟩ := HC.out.cell' (j := i + j) (by have := HU.out; omega)
          have hzb : z < 4294967296 := by rw [← EZ.out]; exact getD_lt HJ.out.1 (by decide) _
          have hfz := HC.out.frozen (i + j)
          have hxy := mul_le_u32 x y hxb hyb
          have hxy2 : 0 ≤ (x : Int) * y := by rw [← Int.natCast_mul]; omega
          have hxy3 : (x : Int) * y ≤ 18446744065119617025 := by rw [← Int.natCast_mul]; omega
          have hN := HJ.out.step (by decide) hlt hlj hxb (by rw [EY.out]; exact hyb) (x * y + z + cy) (by rw [EY.out, EZ.out])
          have HN := Lib.hid hN
          have hij : ((i : Int) + j).toNat = i + j := by omega
          have e1 : ((x : Int) * y + z + cy) % 4294967296 = ((x * y + z + cy) % 4294967296 : Nat) := by rw [← Int.natCast_mul]; omega
          have e2 : ((x : Int) * y + z + cy) / 4294967296 = ((x * y + z + cy) / 4294967296 : Nat) := by rw [← Int.natCast_mul]; omega
          have E1 := Lib.hid e1
          have E2 := Lib.hid e2
          clear hN e1 e2 hxy
          go_wp2
          go_roundw
          case rel => exact ⟨j + 1, (x * y + z + cy) / 4294967296, us.set (i + j) ((x * y + z + cy) % 4294967296), ⟨HN.out, by omega, HC.out.seti (by exact E1.out), HD.out.setCell (Nat.le_refl _) _⟩, (by rw [E2.out]), by go_num⟩
          case measure => simp [intOf]; omega
        · have hjj : j = ys.length := by omega
          have hj2 := HJ.out
          rw [hjj, ← EX.out] at hj2
          have HN := Lib.hid (hj2.done (by decide) hlt)
          have hfz := HC.out.frozen (i + ys.length)
          obtain ⟨z, EZ, hz⟩ := HC.out.cell' (j := i + ys.length) (by have := HU.out; omega)
          have hij : ((i : Int) + ys.length).toNat = i + ys.length := by omega
          clear hj2 hjj
          go_wp2
          go_roundw
          case rel => exact ⟨i + 1, us.set (i + ys.length) cy, ⟨HN.out, by omega, HC.out.seti (by omega), HD.out.setCell (Nat.le_refl _) _⟩, by go_num⟩
          case measure => simp [intOf]; omega
    · have hii : i = xs.length := by omega
      have hi2 := HI.out
      rw [hii] at hi2
      have HD := Lib.hid hi2.done
      have HL := Lib.hid hi2.2.1
      have HB2 := Lib.hid hi2.1
      clear hii hi2
      go_wp2_with fail
      refine (trim_ar w.heap.size (xs.length + ys.length) 113 zs _ _ (by exact HA.out) (by exact HL.out) (by omega) HB2.out HD.out).mono ?_
      rintro e w1 ⟨rfl, hs, rfl⟩
      have HQ := Lib.hid hs
      clear hs
      go_wp2
      go_ret
      exact ⟨_, _, rfl, HQ.out, HB.out⟩
end Go.Proofs.Ytcbdnnboddahkaa.Ws
