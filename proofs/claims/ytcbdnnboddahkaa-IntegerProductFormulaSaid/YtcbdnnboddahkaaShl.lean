/-
  WALKS: words shifted to the left and to the right.
-/
import Derived.Test.YtcbdnnboddahkaaMul
import Derived.Test.YtcbdnnboddahkaaWd
import Derived.Laws.BitsAllLaws
namespace Go.Proofs.Ytcbdnnboddahkaa.Ws
open Go.RowKit
set_option linter.unusedVariables false
set_option maxRecDepth 100000
/-- a new array of one word more that holds xs times P -/
def ShOut (w : World) (xs : List Nat) (P : Nat) (e : Ending) (w' : World) : Prop := ∃ zs : List Nat, e = .returned (.slice (some ⟨w.heap.size, 0, none⟩) (xs.length + 1 : Nat) (xs.length + 1 : Nat)) ∧ zs.length = xs.length + 1 ∧ Ar w' w.heap.size .u32 113 zs ∧ (∀ z ∈ zs, z < 4294967296) ∧ val 4294967296 zs = val 4294967296 xs * P ∧ Below w.heap.size w w'
theorem pow31 {s P : Nat} (hs : s ≤ 31) (hP : P = 2 ^ s) : 1 ≤ P ∧ P ≤ 2147483648 := by
  subst hP
  exact ⟨Nat.one_le_two_pow, by have := Nat.pow_le_pow_right (n := 2) (by decide) hs; omega⟩
theorem or_shl {z x s P Q : Nat} (hPQ : P * Q = 4294967296) (hz : z < P) (hP : P = 2 ^ s) : z ||| x * P % 4294967296 = z + x * P % 4294967296 := by
  rw [Nat.or_comm, Nat.add_comm, shl_low hPQ]
  subst hP
  exact nat_join _ _ _ (Nat.mul_mod_right _ _) hz
set_option maxHeartbeats 1000000 in
theorem shl_any (A : Option Addr) (c : Nat) (xs : List Nat) (s P Q : Nat) (w : World) (hx : Sl w .u32 A c xs) (bx : ∀ x ∈ xs, x < 4294967296) (hlx : xs.length ≤ 4294967295) (hs : s ≤ 31) (hP : P = 2 ^ s) (hPQ : P * Q = 4294967296) :
    Calls Try.prog 163 #[.slice A xs.length c, .int .i64 s] w fun e w' => ShOut w xs P e w' := by
  have hmk := makeW (xs.length + 1) (by omega) (xs.length + 1) (by omega)
  obtain ⟨hrx, hcx, hmx, _⟩ := hx
  have HX := Lib.hid hrx
  have BX := Lib.hid bx
  obtain ⟨hP1, hP2⟩ := pow31 hs hP
  have HP := Lib.hid hP
  clear hrx bx hP
  go_enter Try.func163, Try.ntmps163
  go_wp2
  go_loopw [6, 7, 8, 15] (fun _ _ _ t15 wr => ∃ (i : Nat) (zs : List Nat), (ShlInv 4294967296 P xs zs i ∧ i ≤ xs.length ∧ Ar wr w.heap.size .u32 113 zs ∧ Below w.heap.size w wr) ∧ t15 = .int .i64 i) (fun _ _ _ t15 _ => xs.length - (intOf t15).toNat)
  case atStart => exact ⟨0, _, ⟨ShlInv.start (by decide) hP1 xs, by omega, Ar.new' _ _ _ _, (Below.refl _ _).alloc (Nat.le_refl _) _⟩, rfl⟩
  case round =>
    obtain ⟨i, zs, ⟨hinv, hi, har, hbel⟩, rfl⟩ := hrel
    have hzl := hinv.2.1
    have hzP := hinv.2.2.1
    have HI := Lib.hid hinv
    have HA := Lib.hid har
    have HB := Lib.hid hbel
    have HL := Lib.hid hzl
    clear hinv har hbel hzl
    by_cases hlt : i < xs.length
    · obtain ⟨b, o, x, rfl, EX, hcell, hb⟩ := (HX.out.below HB.out).at_ hlt
      have hxb : x < 4294967296 := by rw [← EX.out]; exact getD_lt BX.out (by decide) i
      obtain ⟨z, EZ, hz⟩ := HA.out.cell' (j := i) (by have := HL.out; omega)
      obtain ⟨z2, EZ2, hz2⟩ := HA.out.cell' (j := i + 1) (by have := HL.out; omega)
      rw [EZ.out] at hzP
      have hfz := HA.out.frozen i
      have hfz2 := HA.out.frozen (i + 1)
      have hN := HI.out.step (Q := Q) (by decide) hPQ hP1 hlt EX.out hxb EZ.out
      have HN := Lib.hid hN
      have hpw : (2 : Int) ^ s = (P : Int) := by rw [HP.out]; simp
      have hxp : x * P ≤ 4294967295 * 2147483648 := Nat.mul_le_mul (by omega) hP2
      have hx1 : 0 ≤ (x : Int) * P := by rw [← Int.natCast_mul]; omega
      have hx2 : (x : Int) * P ≤ 9223372034707292160 := by rw [← Int.natCast_mul]; omega
      have hor : bits BinOp.or IntKind.u32 (z : Int) ((x : Int) * P % 4294967296) = (z : Int) + (x : Int) * P % 4294967296 := by
        have h := u32_or_nat z (x * P % 4294967296) (by omega) (by omega)
        rw [or_shl hPQ hzP HP.out] at h
        rw [show (x : Int) * P % 4294967296 = ((x * P % 4294967296 : Nat) : Int) from by rw [← Int.natCast_mul]; omega, h]
        omega
      have e1 : (z : Int) + (x : Int) * P % 4294967296 = ((z + x * P % 4294967296 : Nat) : Int) := by rw [← Int.natCast_mul]; omega
      have e2 : (x : Int) * P / 4294967296 = ((x * P / 4294967296 : Nat) : Int) := by rw [← Int.natCast_mul]; omega
      have E1 := Lib.hid e1
      have E2 := Lib.hid e2
      clear hN e1 e2 hxp
      go_wp2
      go_roundw
      case rel => exact ⟨i + 1, _, ⟨HN.out, by omega, (HA.out.seti (by exact E1.out)).seti (by exact E2.out), (HB.out.setCell (Nat.le_refl _) _).setCell (Nat.le_refl _) _⟩, by go_num⟩
      case measure => simp [intOf]; omega
    · have hii : i = xs.length := by omega
      have hi2 := HI.out
      rw [hii] at hi2
      have HD := Lib.hid hi2.done
      have HB2 := Lib.hid hi2.1
      clear hii hi2
      go_wp2
      go_ret
      exact ⟨zs, rfl, HL.out, HA.out, HB2.out, HD.out, HB.out⟩
set_option maxHeartbeats 1000000 in
theorem shr_any (A : Option Addr) (c : Nat) (xs : List Nat) (s P Q : Nat) (w : World) (hx : Sl w .u32 A c xs) (bx : ∀ x ∈ xs, x < 4294967296) (hlx : xs.length ≤ 4294967295) (hs : s ≤ 31) (hP : P = 2 ^ s) (hPQ : P * Q = 4294967296) :
    Calls Try.prog 152 #[.slice A xs.length c, .int .i64 s] w fun e w' => SlOut w .u32 (W (val 4294967296 xs / P)) e w' := by
  have hmk := makeW xs.length (by omega) xs.length (by omega)
  obtain ⟨hrx, hcx, hmx, _⟩ := hx
  have HX := Lib.hid hrx
  have BX := Lib.hid bx
  obtain ⟨hP1, hP2⟩ := pow31 hs hP
  have HP := Lib.hid hP
  have hQ : 1 ≤ Q := by
    rcases Nat.eq_zero_or_pos Q with h | h
    · subst h; omega
    · exact h
  clear hrx bx hP
  go_enter Try.func152, Try.ntmps152
  go_wp2
  go_loopw [6, 7, 8] (fun t6 t7 _ wr => ∃ (k a : Nat) (zs : List Nat), (ShrInv 4294967296 P xs zs k a ∧ k ≤ xs.length ∧ Ar wr w.heap.size .u32 113 zs ∧ Below w.heap.size w wr) ∧ t6 = .int .u64 a ∧ t7 = .int .i64 ((k : Int) - 1)) (fun _ t7 _ _ => (intOf t7 + 1).toNat)
  case atStart => exact ⟨xs.length, 0, _, ⟨ShrInv.start (by decide) hP1 xs, Nat.le_refl _, Ar.new' _ _ _ _, (Below.refl _ _).alloc (Nat.le_refl _) _⟩, rfl, rfl⟩
  case round =>
    obtain ⟨k, a, zs, ⟨hinv, hk, har, hbel⟩, rfl, rfl⟩ := hrel
    have hab : a < 4294967296 := by rw [hinv.2.2.1]; exact getD_lt BX.out (by decide) k
    have HI := Lib.hid hinv
    have HA := Lib.hid har
    have HB := Lib.hid hbel
    clear hinv har hbel
    by_cases h0 : k = 0
    · subst h0
      have HD := Lib.hid HI.out.done
      have HL := Lib.hid HI.out.2.1
      go_wp2_with fail
      refine (trim_ar w.heap.size xs.length 113 zs _ _ (by exact HA.out) (by exact HL.out) (by omega) HI.out.1 HD.out).mono ?_
      rintro e w1 ⟨rfl, hs, rfl⟩
      have HQ := Lib.hid hs
      clear hs
      go_wp2
      go_ret
      exact ⟨_, _, rfl, HQ.out, HB.out⟩
    · obtain ⟨i, rfl⟩ : ∃ i, k = i + 1 := ⟨k - 1, by omega⟩
      have hlt : i < xs.length := by omega
      obtain ⟨b, o, x, rfl, EX, hcell0, hb⟩ := HX.out.at_ hlt
      have hcell : wr.cell? ⟨b, o + i, none⟩ = some (.int .u32 x) := (HB.out.cell (p := ⟨b, o + i, none⟩) hb).trans hcell0
      clear hcell0
      have hxb : x < 4294967296 := by rw [← EX.out]; exact getD_lt BX.out (by decide) i
      obtain ⟨z, EZ, hz⟩ := HA.out.cell' (j := i) (by have := HI.out.2.1; omega)
      have hfz := HA.out.frozen i
      have HN := Lib.hid (HI.out.step (by decide) hPQ hP1 hQ hlt EX.out hxb)
      have hor := or_word a x hab hxb
      have hpw : (2 : Int) ^ s = (P : Int) := by rw [HP.out]; simp
      have hbn : w.heap.size ≠ b := by omega
      have ed : ((a : Int) * 4294967296 + x) / P = (((a * 4294967296 + x) / P : Nat) : Int) := by rw [Int.natCast_ediv]; congr 1
      have n1 : 0 ≤ ((a : Int) * 4294967296 + x) / P := by rw [ed]; exact Int.natCast_nonneg _
      have em : ((a : Int) * 4294967296 + x) / P % 4294967296 = (((a * 4294967296 + x) / P % 4294967296 : Nat) : Int) := by rw [ed]; omega
      have EM := Lib.hid em
      clear h0 ed em
      go_wp2
      go_roundw
      case rel => exact ⟨i, x, zs.set i ((a * 4294967296 + x) / P % 4294967296), ⟨HN.out, by omega, HA.out.seti (by exact EM.out), HB.out.setCell (Nat.le_refl _) _⟩, rfl, by go_num⟩
      case measure => simp [intOf]
end Go.Proofs.Ytcbdnnboddahkaa.Ws
