/-
  WALKS: words multiplied; words divided by one word.
-/
import Derived.Test.YtcbdnnboddahkaaAdd
import Derived.Laws.BitsAllLaws
namespace Go.Proofs.Ytcbdnnboddahkaa.Ws
/-! WALKS: words multiplied. -/
open Go.RowKit
set_option linter.unusedVariables false
set_option maxRecDepth 100000
theorem mul_le_u32 (x y : Nat) (hx : x < 4294967296) (hy : y < 4294967296) : x * y ≤ 18446744065119617025 := by
  have : x * y ≤ 4294967295 * 4294967295 := Nat.mul_le_mul (by omega) (by omega)
  omega
set_option maxHeartbeats 2000000 in
theorem mul_any (A C : Option Addr) (c d : Nat) (xs ys : List Nat) (w : World) (hx : Sl w .u32 A c xs) (hy : Sl w .u32 C d ys) (bx : ∀ x ∈ xs, x < 4294967296) (bz : ∀ x ∈ ys, x < 4294967296) (hlx : xs.length ≤ 4294967296) (hly : ys.length ≤ 4294967296) :
    Calls Try.prog 103 #[.slice A xs.length c, .slice C ys.length d] w fun e w' => SlOut w .u32 (W (val 4294967296 xs * val 4294967296 ys)) e w' := by
  have hmk := makeW (xs.length + ys.length) (by omega) (xs.length + ys.length) (by omega)
  obtain ⟨hrx, hcx, hmx, _⟩ := hx
  obtain ⟨hry, hcy, hmy, _⟩ := hy
  have HX := Lib.hid hrx
  have HY := Lib.hid hry
  have BX := Lib.hid bx
  have BY := Lib.hid bz
  clear hrx hry bx bz
  go_enter Try.func103, Try.ntmps103
  go_wp2
  go_loopw [6, 7, 8, 9, 10, 11, 20] (fun _ _ _ _ _ _ t20 wr => ∃ (i : Nat) (zs : List Nat), (MulOut 4294967296 xs ys zs i ∧ i ≤ xs.length ∧ Ar wr w.heap.size .u32 113 zs ∧ Below w.heap.size w wr) ∧ t20 = .int .i64 i) (fun _ _ _ _ _ _ t20 _ => xs.length - (intOf t20).toNat)
  case atStart => exact ⟨0, _, ⟨MulOut.start (by decide) xs ys, by omega, Ar.new' _ _ _ _, (Below.refl _ _).alloc (Nat.le_refl _) _⟩, rfl⟩
  case round =>
    obtain ⟨i, zs, ⟨hinv, hi, har, hbel⟩, rfl⟩ := hrel
    obtain ⟨wo, rfl⟩ : ∃ wo : World, wo = wr := ⟨_, rfl⟩
    have HI := Lib.hid hinv
    have HA := Lib.hid har
    have HB := Lib.hid hbel
    clear hinv har hbel
    by_cases hlt : i < xs.length
    · obtain ⟨b, o, x, rfl, EX, hcell, hb⟩ := (HX.out.below HB.out).at_ hlt
      have hxb : x < 4294967296 := by rw [← EX.out]; exact getD_lt BX.out (by decide) i
      go_wp2
      go_loopw [8, 9, 10, 11, 27] (fun t8 _ _ _ t27 wr => ∃ (j cy : Nat) (us : List Nat), (MulIn 4294967296 xs ys us i j cy x ∧ j ≤ ys.length ∧ Ar wr w.heap.size .u32 113 us ∧ Below w.heap.size w wr) ∧ t8 = .int .u64 cy ∧ t27 = .int .i64 j) (fun _ _ _ _ t27 _ => ys.length - (intOf t27).toNat)
      case atStart => exact ⟨0, 0, zs, ⟨HI.out.begin (by decide) x, by omega, HA.out, HB.out⟩, rfl, rfl⟩
      case round =>
        obtain ⟨j, cy, us, ⟨hinv, hj, har, hbel⟩, rfl, rfl⟩ := hrel
        have hcy1 := hinv.2.2.1
        have hul := hinv.2.1
        have HJ := Lib.hid hinv
        have HC := Lib.hid har
        have HD := Lib.hid hbel
        have HU := Lib.hid hul
        clear hinv har hbel hul
        by_cases hlj : j < ys.length
        · obtain ⟨b', o', y, rfl, EY, hcell', hb'⟩ := (HY.out.below HD.out).at_ hlj
          have hyb : y < 4294967296 := by rw [← EY.out]; exact getD_lt BY.out (by decide) j
          obtain ⟨z, EZ, hz⟩ := HC.out.cell' (j := i + j) (by have := HU.out; omega)
          have hzb : z < 4294967296 := by rw [← EZ.out]; exact getD_lt HJ.out.1 (by decide) _
          have hfz := HC.out.frozen (i + j)
          have hxy := mul_le_u32 x y hxb hyb
          have hxy2 : 0 ≤ (x : Int) * y := by rw [← Int.natCast_mul]; omega
          have hxy3 : (x : Int) * y ≤ 18446744065119617025 := by rw [← Int.natCast_mul]; omega
          have hN := HJ.out.step (by decide) hlt hlj hxb (by rw [EY.out]; exact hyb) (x * y + z + cy) (by rw [EY.out, EZ.out])
          have HN := Lib.hid hN
          have hij : ((i : Int) + j).toNat = i + j := by omega
          have e1 : ((x : Int) * y + z + cy) % 4294967296 = ((x * y + z + cy) % 4294967296 : Nat) := by rw [← Int.natCast_mul]; omega
          have e2 : ((x : Int) * y + z + cy) / 4294967296 = ((x * y + z + cy) / 4294967296 : Nat) := by rw [← Int.natCast_mul]; omega
          have E1 := Lib.hid e1
          have E2 := Lib.hid e2
          clear hN e1 e2 hxy
          go_wp2
          go_roundw
          case rel => exact ⟨j + 1, (x * y + z + cy) / 4294967296, us.set (i + j) ((x * y + z + cy) % 4294967296), ⟨HN.out, by omega, HC.out.seti (by exact E1.out), HD.out.setCell (Nat.le_refl _) _⟩, (by rw [E2.out]), by go_num⟩
          case measure => simp [intOf]; omega
        · have hjj : j = ys.length := by omega
          have hj2 := HJ.out
          rw [hjj, ← EX.out] at hj2
          have HN := Lib.hid (hj2.done (by decide) hlt)
          have hfz := HC.out.frozen (i + ys.length)
          obtain ⟨z, EZ, hz⟩ := HC.out.cell' (j := i + ys.length) (by have := HU.out; omega)
          have hij : ((i : Int) + ys.length).toNat = i + ys.length := by omega
          clear hj2 hjj
          go_wp2
          go_roundw
          case rel => exact ⟨i + 1, us.set (i + ys.length) cy, ⟨HN.out, by omega, HC.out.seti (by omega), HD.out.setCell (Nat.le_refl _) _⟩, by go_num⟩
          case measure => simp [intOf]; omega
    · have hii : i = xs.length := by omega
      have hi2 := HI.out
      rw [hii] at hi2
      have HD := Lib.hid hi2.done
      have HL := Lib.hid hi2.2.1
      have HB2 := Lib.hid hi2.1
      clear hii hi2
      go_wp2_with fail
      refine (trim_ar w.heap.size (xs.length + ys.length) 113 zs _ _ (by exact HA.out) (by exact HL.out) (by omega) HB2.out HD.out).mono ?_
      rintro e w1 ⟨rfl, hs, rfl⟩
      have HQ := Lib.hid hs
      clear hs
      go_wp2
      go_ret
      exact ⟨_, _, rfl, HQ.out, HB.out⟩
/-! WALKS: words divided by one word. -/
open Go.RowKit
set_option linter.unusedVariables false
set_option maxRecDepth 100000
def DivInv (d : Nat) (xs qs : List Nat) (k r : Nat) : Prop :=
  (∀ q ∈ qs, q < 4294967296) ∧ qs.length = xs.length ∧ r < d ∧ val 4294967296 (xs.drop k) = d * val 4294967296 (qs.drop k) + r
theorem or_word (r x : Nat) (hr : r < 4294967296) (hx : x < 4294967296) : bits BinOp.or IntKind.u64 ((r : Int) * 4294967296) (x : Int) = (r : Int) * 4294967296 + x := by
  have h := u64_or_nat (r * 4294967296) x (by omega) (by omega)
  rw [nat_join 32 (r * 4294967296) x (by omega) (by omega)] at h
  rw [show ((r : Int) * 4294967296) = ((r * 4294967296 : Nat) : Int) from by omega, h]
  omega
theorem DivInv.step {d r x i : Nat} {xs qs : List Nat} (h : DivInv d xs qs (i + 1) r) (hi : i < xs.length) (hx : xs.getD i 0 = x) (hxb : x < 4294967296) (hd : d < 4294967296) :
    DivInv d xs (qs.set i ((r * 4294967296 + x) / d)) i ((r * 4294967296 + x) % d) := by
  obtain ⟨h1, h2, h3, h4⟩ := h
  obtain ⟨k1, k2⟩ := div_step (B := 4294967296) (by decide) h3 hxb (by omega)
  exact ⟨mem_set_lt h1 k1, by simpa using h2, k2, div_down hx hi (by omega) h4⟩
theorem DivInv.start {d : Nat} (xs : List Nat) (hd : 1 ≤ d) : DivInv d xs (List.replicate xs.length 0) xs.length 0 :=
  ⟨fun z hz => by have := List.eq_of_mem_replicate hz; omega, by simp, by omega, by simp [val]⟩
theorem DivInv.done {d r : Nat} {xs qs : List Nat} (h : DivInv d xs qs 0 r) : val 4294967296 qs = val 4294967296 xs / d ∧ val 4294967296 xs % d = r := by
  obtain ⟨h1, h2, h3, h4⟩ := h
  simp only [List.drop_zero] at h4
  rw [h4]
  constructor
  · rw [Nat.mul_add_div (by omega), Nat.div_eq_of_lt h3]; rfl
  · rw [Nat.mul_add_mod, Nat.mod_eq_of_lt h3]
set_option maxHeartbeats 1000000 in
theorem dbw_any (A : Option Addr) (c : Nat) (xs : List Nat) (d : Nat) (w : World) (hx : Sl w .u32 A c xs) (bx : ∀ x ∈ xs, x < 4294967296) (hlx : xs.length ≤ 4294967296) (hd0 : 1 ≤ d) (hd : d < 4294967296) :
    Calls Try.prog 109 #[.slice A xs.length c, .int .u32 d] w fun e w' => ∃ A' c', e = .returned (.tuple #[.slice A' (W (val 4294967296 xs / d)).length c', .int .u32 (val 4294967296 xs % d : Nat)]) ∧ Sl w' .u32 A' c' (W (val 4294967296 xs / d)) ∧ Below w.heap.size w w' := by
  have hmk := makeW xs.length (by omega) xs.length (by omega)
  obtain ⟨hrx, hcx, hmx, _⟩ := hx
  have HX := Lib.hid hrx
  have BX := Lib.hid bx
  clear hrx bx
  go_enter Try.func109, Try.ntmps109
  go_wp2
  go_loopw [7, 8, 9] (fun t7 t8 _ wr => ∃ (k r : Nat) (qs : List Nat), (DivInv d xs qs k r ∧ k ≤ xs.length ∧ Ar wr w.heap.size .u32 113 qs ∧ Below w.heap.size w wr) ∧ t7 = .int .u64 r ∧ t8 = .int .i64 ((k : Int) - 1)) (fun _ t8 _ _ => (intOf t8 + 1).toNat)
  case atStart => exact ⟨xs.length, 0, _, ⟨DivInv.start xs hd0, Nat.le_refl _, Ar.new' _ _ _ _, (Below.refl _ _).alloc (Nat.le_refl _) _⟩, rfl, rfl⟩
  case round =>
    obtain ⟨k, r, qs, ⟨hinv, hk, har, hbel⟩, rfl, rfl⟩ := hrel
    have hrd := hinv.2.2.1
    have HI := Lib.hid hinv
    have HA := Lib.hid har
    have HB := Lib.hid hbel
    clear hinv har hbel
    by_cases h0 : k = 0
    · subst h0
      have hd2 := HI.out.done
      have HD := Lib.hid hd2.1
      have HM := Lib.hid hd2.2
      have HL := Lib.hid HI.out.2.1
      have hrm : r % 4294967296 = r := Nat.mod_eq_of_lt (by omega)
      clear hd2
      go_wp2_with fail
      refine (trim_ar w.heap.size xs.length 113 qs _ _ (by exact HA.out) (by exact HL.out) (by omega) HI.out.1 HD.out).mono ?_
      rintro e w1 ⟨rfl, hs, rfl⟩
      have HQ := Lib.hid hs
      clear hs
      go_wp2
      go_ret2
      exact ⟨_, _, by rw [HM.out]; rfl, HQ.out, HB.out⟩
    · obtain ⟨i, rfl⟩ : ∃ i, k = i + 1 := ⟨k - 1, by omega⟩
      have hlt : i < xs.length := by omega
      obtain ⟨b, o, x, rfl, EX, hcell, hb⟩ := (HX.out.below HB.out).at_ hlt
      have hxb : x < 4294967296 := by rw [← EX.out]; exact getD_lt BX.out (by decide) i
      obtain ⟨z, EZ, hz⟩ := HA.out.cell' (j := i) (by have := HI.out.2.1; omega)
      have hfz := HA.out.frozen i
      have HN := Lib.hid (HI.out.step hlt EX.out hxb hd)
      obtain ⟨k1, k2⟩ := div_step (B := 4294967296) (by decide) hrd hxb (by omega)
      have hor := or_word r x (by omega) hxb
      have ed : ((r : Int) * 4294967296 + x) / d = (((r * 4294967296 + x) / d : Nat) : Int) := by rw [Int.natCast_ediv]; congr 1
      have em : ((r : Int) * 4294967296 + x) % d = (((r * 4294967296 + x) % d : Nat) : Int) := by rw [Int.natCast_emod]; congr 1
      have n1 : 0 ≤ ((r : Int) * 4294967296 + x) / d := by rw [ed]; exact Int.natCast_nonneg _
      have n2 : ((r : Int) * 4294967296 + x) / d < 4294967296 := by rw [ed]; exact Int.ofNat_lt.2 k1
      have n3 : 0 ≤ ((r : Int) * 4294967296 + x) % d := by rw [em]; exact Int.natCast_nonneg _
      have n4 : ((r : Int) * 4294967296 + x) % d < 4294967296 := by rw [em]; exact Int.ofNat_lt.2 (Nat.lt_trans k2 hd)
      have ED := Lib.hid ed
      have EM := Lib.hid em
      clear h0 ed em k1 k2
      go_wp2
      go_roundw
      case rel => exact ⟨i, (r * 4294967296 + x) % d, qs.set i ((r * 4294967296 + x) / d), ⟨HN.out, by omega, HA.out.seti (by exact ED.out), HB.out.setCell (Nat.le_refl _) _⟩, congrArg (Value.int .u64) EM.out, by go_num⟩
      case measure => simp [intOf]
end Go.Proofs.Ytcbdnnboddahkaa.Ws
