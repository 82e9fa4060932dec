/-
  WALKS of the long division: a multiple taken away, added back; the guess of a digit.
-/
import Derived.Test.YtcbdnnboddahkaaShl
import Derived.Test.YtcbdnnboddahkaaWd
import Derived.Test.YtcbdnnboddahkaaCmpw
namespace Go.Proofs.Ytcbdnnboddahkaa.Ws
/-! WALKS of the long division: taking a multiple away, adding back. -/
open Go.RowKit
set_option linter.unusedVariables false
set_option maxRecDepth 100000
/-- no block but g has changed -/
def Only (g : Nat) (w w' : World) : Prop := ∀ k, k ≠ g → w'.heap[k]? = w.heap[k]?
theorem Only.refl (g : Nat) (w : World) : Only g w w := fun _ _ => rfl
theorem Only.set_ {g i : Nat} {w w' : World} (h : Only g w w') (v : Value) : Only g w (w'.setCell ⟨g, i, none⟩ v) := fun k hk => (Below.heap_setCell w' _ v k hk).trans (h k hk)
theorem Only.ar {g h : Nat} {w w' : World} {k : IntKind} {T : TypeId} {zs : List Nat} (ho : Only g w w') (ha : Ar w h k T zs) (hne : h ≠ g) : Ar w' h k T zs := (ho h hne).trans ha
theorem Only.trans {g : Nat} {a b c : World} (h : Only g a b) (k : Only g b c) : Only g a c := fun i hi => (k i hi).trans (h i hi)
theorem mid_getD (pre zs post : List Nat) (i : Nat) (hi : i < zs.length) : (pre ++ zs ++ post).getD (pre.length + i) 0 = zs.getD i 0 := by
  rw [List.getD_eq_getElem?_getD, List.getD_eq_getElem?_getD, List.append_assoc, List.getElem?_append_right (by omega), Nat.add_sub_cancel_left, List.getElem?_append_left hi]
theorem mid_set (pre zs post : List Nat) (i y : Nat) (hi : i < zs.length) : (pre ++ zs ++ post).set (pre.length + i) y = pre ++ zs.set i y ++ post := by
  rw [List.append_assoc, List.set_append_right _ _ (by omega), Nat.add_sub_cancel_left, List.set_append_left _ _ hi, List.append_assoc]
theorem Ar.mid {w : World} {g j : Nat} {k : IntKind} {T : TypeId} {pre zs post : List Nat} (h : Ar w g k T (pre ++ zs ++ post)) (hj : pre.length = j) {i : Nat} (hi : i < zs.length) : ∃ x, Hid (zs.getD i 0 = x) ∧ w.cell? ⟨g, j + i, none⟩ = some (.int k (x : Nat)) := by
  subst hj
  have := h.cell (j := pre.length + i) (by simp; omega)
  rw [mid_getD _ _ _ _ hi] at this
  exact ⟨_, Lib.hid rfl, this⟩
theorem Ar.midset {w : World} {g j : Nat} {k : IntKind} {T : TypeId} {pre zs post : List Nat} (h : Ar w g k T (pre ++ zs ++ post)) (hj : pre.length = j) {i y : Nat} (hi : i < zs.length) {v : Int} (hv : v = (y : Int)) :
    Ar (w.setCell ⟨g, j + i, none⟩ (.int k v)) g k T (pre ++ zs.set i y ++ post) := by
  subst hj
  have := h.seti (i := pre.length + i) hv
  rwa [mid_set _ _ _ _ _ hi] at this
theorem getD_take {xs : List Nat} {n i : Nat} (hi : i < n) : (xs.take n).getD i 0 = xs.getD i 0 := by
  rw [List.getD_eq_getElem?_getD, List.getD_eq_getElem?_getD, List.getElem?_take, if_pos hi]
/-- one digit taken away, as the machine does it, the great number first -/
theorem sub_digit2 (x y c : Nat) (hx : x < 4294967296) (hy : y < 4294967296) (hc : c ≤ 1) :
    ∃ d b : Nat, b ≤ 1 ∧ d < 4294967296 ∧ d + y + c = x + 4294967296 * b ∧ IntKind.u64.wrap (IntKind.u64.wrap ((x : Int) - y) - c) % 4294967296 = (d : Int) ∧ IntKind.u64.wrap (IntKind.u64.wrap ((x : Int) - y) - c) / 9223372036854775808 = (b : Int) := by
  by_cases h : y + c ≤ x
  · refine ⟨x - y - c, 0, by omega, by omega, by omega, ?_, ?_⟩ <;> simp only [IntKind.wrap_u64] <;> omega
  · refine ⟨x + 4294967296 - y - c, 1, by omega, by omega, by omega, ?_, ?_⟩ <;> simp only [IntKind.wrap_u64] <;> omega
/-- what subtractMultiple leaves: the part of block g from place j on has changed -/
def SmOut (w : World) (g n q : Nat) (pre us post vs : List Nat) (e : Ending) (w' : World) : Prop :=
  ∃ (zs : List Nat) (b : Nat), e = .returned (.bool ((b : Int) != 0)) ∧ (∀ z ∈ zs, z < 4294967296) ∧ zs.length = n + 1 ∧ b ≤ 1 ∧ val 4294967296 zs + q * val 4294967296 vs = val 4294967296 us + 4294967296 ^ (n + 1) * b ∧ Ar w' g .u32 113 (pre ++ zs ++ post) ∧ Only g w w' ∧ Below g w w'
set_option maxHeartbeats 2000000 in
theorem subm_any (g gv n j q cp cv : Nat) (pre us post vv : List Nat) (w : World) (hpre : pre.length = j) (hus : us.length = n + 1) (hn : n ≤ vv.length) (hnm : n ≤ 4294967296) (hjm : j ≤ 4294967296) (hcp : n + 1 ≤ cp) (hcpm : cp ≤ 9223372036854775807) (hcv : n ≤ cv) (hcvm : cv ≤ 9223372036854775807) (hq : q < 4294967296)
    (bu : ∀ u ∈ us, u < 4294967296) (bv : ∀ v ∈ vv, v < 4294967296) (hu : Ar w g .u32 113 (pre ++ us ++ post)) (hv : Ar w gv .u32 113 vv) (hne : gv ≠ g) :
    Calls Try.prog 165 #[.slice (some ⟨g, j, none⟩) (n + 1 : Nat) cp, .slice (some ⟨gv, 0, none⟩) n cv, .int .u32 q] w fun e w' => SmOut w g n q pre us post (vv.take n) e w' := by
  have HU := Lib.hid hu
  have HV := Lib.hid hv
  have BU := Lib.hid bu
  have BV := Lib.hid bv
  have HP := Lib.hid hpre
  have HL := Lib.hid hus
  clear hu hv bu bv hpre hus
  go_enter Try.func165, Try.ntmps165
  go_wp2
  go_loopw [7, 8, 9, 10, 11, 12, 16] (fun t7 t8 _ _ _ _ t16 wr => ∃ (i c b : Nat) (zs : List Nat), (SmInv 4294967296 q us (vv.take n) zs i c b ∧ i ≤ n ∧ Ar wr g .u32 113 (pre ++ zs ++ post) ∧ Only g w wr ∧ Below g w wr) ∧ t7 = .int .u64 c ∧ t8 = .int .u64 b ∧ t16 = .int .i64 i) (fun _ _ _ _ _ _ t16 _ => n - (intOf t16).toNat)
  case atStart => exact ⟨0, 0, 0, us, ⟨SmInv.start (by decide) BU.out, by omega, HU.out, Only.refl _ _, Below.refl _ _⟩, rfl, rfl, rfl⟩
  case round =>
    obtain ⟨i, c, b, zs, ⟨hinv, hi, har, honly, hbel⟩, rfl, rfl, rfl⟩ := hrel
    have hcb := hinv.2.2.1
    have hb1 := hinv.2.2.2.1
    have hzl := hinv.2.1
    have HI := Lib.hid hinv
    have HA := Lib.hid har
    have HO := Lib.hid honly
    have HB := Lib.hid hbel
    have HZ := Lib.hid hzl
    have hvr := HO.out.ar HV.out hne
    have HVR := Lib.hid hvr
    clear hinv har honly hbel hzl hvr
    by_cases hlt : i < n
    · obtain ⟨y, EY, hcy⟩ := HVR.out.cell' (j := i) (by omega)
      have hyb : y < 4294967296 := by rw [← EY.out]; exact getD_lt BV.out (by decide) i
      obtain ⟨z, EZ, hz⟩ := HA.out.mid HP.out (i := i) (by have := HZ.out; have := HL.out; omega)
      have hzb : z < 4294967296 := by rw [← EZ.out]; exact getD_lt HI.out.1 (by decide) i
      have hfz := HA.out.frozen (j + i)
      have hp := mul_le_u32 y q hyb hq
      have hp2 : 0 ≤ (y : Int) * q := by rw [← Int.natCast_mul]; omega
      have hp3 : (y : Int) * q ≤ 18446744065119617025 := by rw [← Int.natCast_mul]; omega
      have e0 : ((y : Int) * q + c) % 4294967296 = (((y * q + c) % 4294967296 : Nat) : Int) := by rw [← Int.natCast_mul]; omega
      have e9 : ((y : Int) * q + c) / 4294967296 = (((y * q + c) / 4294967296 : Nat) : Int) := by rw [← Int.natCast_mul]; omega
      obtain ⟨d, b', hb', hd, hdd, e1, e2⟩ := sub_digit2 z ((y * q + c) % 4294967296) b hzb (Nat.mod_lt _ (by decide)) hb1
      have HN := Lib.hid (HI.out.step (by decide) (by have := HL.out; omega) (by rw [getD_take hlt, EY.out]; exact hyb) hq (y * q + c) d b' (by rw [getD_take hlt, EY.out]) hd hb' (by rw [EZ.out]; exact hdd))
      have E9 := Lib.hid e9
      rw [← e0] at e1 e2
      have E1 := Lib.hid e1
      have E2 := Lib.hid e2
      clear hdd e0 e1 e2 e9 hp
      go_wp2
      go_roundw
      case rel => exact ⟨i + 1, (y * q + c) / 4294967296, b', zs.set i d, ⟨HN.out, by omega, HA.out.midset HP.out (by have := HZ.out; have := HL.out; omega) (by exact E1.out), HO.out.set_ _, HB.out.setCell (Nat.le_refl _) _⟩, congrArg (Value.int .u64) E9.out, congrArg (Value.int .u64) E2.out, by go_num⟩
      case measure => simp [intOf]; omega
    · have hii : i = n := by omega
      have hi2 := HI.out
      rw [hii] at hi2
      obtain ⟨z, EZ, hz⟩ := HA.out.mid HP.out (i := n) (by have := HZ.out; have := HL.out; omega)
      have hzb : z < 4294967296 := by rw [← EZ.out]; exact getD_lt HI.out.1 (by decide) n
      have hfz := HA.out.frozen (j + n)
      obtain ⟨d, b', hb', hd, hdd, e1, e2⟩ := sub_digit2 z c b hzb hcb hb1
      have HD := Lib.hid (hi2.done (by decide) HL.out (by simp; omega) d b' hd hb' (by rw [EZ.out]; exact hdd))
      have E1 := Lib.hid e1
      have E2 := Lib.hid e2
      clear hdd e1 e2 hii hi2
      go_wp2
      go_ret
      exact ⟨zs.set n d, b', congrArg (fun x : Int => Ending.returned (.bool (x != 0))) E2.out, HD.out.1, HD.out.2.1, hb', HD.out.2.2, HA.out.midset HP.out (by have := HZ.out; have := HL.out; omega) (by exact E1.out), HO.out.set_ _, HB.out.setCell (Nat.le_refl _) _⟩
/-- what addBack leaves -/
def AbOut (w : World) (g n : Nat) (pre us post vs : List Nat) (e : Ending) (w' : World) : Prop :=
  ∃ (zs : List Nat) (k : Nat), e = .returned (.tuple #[]) ∧ (∀ z ∈ zs, z < 4294967296) ∧ zs.length = n + 1 ∧ val 4294967296 zs + 4294967296 ^ (n + 1) * k = val 4294967296 us + val 4294967296 vs ∧ Ar w' g .u32 113 (pre ++ zs ++ post) ∧ Only g w w' ∧ Below g w w'
set_option maxHeartbeats 2000000 in
theorem addb_any (g gv n j cp cv : Nat) (pre us post vv : List Nat) (w : World) (hpre : pre.length = j) (hus : us.length = n + 1) (hn : n ≤ vv.length) (hnm : n ≤ 4294967296) (hjm : j ≤ 4294967296) (hcp : n + 1 ≤ cp) (hcpm : cp ≤ 9223372036854775807) (hcv : n ≤ cv) (hcvm : cv ≤ 9223372036854775807)
    (bu : ∀ u ∈ us, u < 4294967296) (bv : ∀ v ∈ vv, v < 4294967296) (hu : Ar w g .u32 113 (pre ++ us ++ post)) (hv : Ar w gv .u32 113 vv) (hne : gv ≠ g) :
    Calls Try.prog 166 #[.slice (some ⟨g, j, none⟩) (n + 1 : Nat) cp, .slice (some ⟨gv, 0, none⟩) n cv] w fun e w' => AbOut w g n pre us post (vv.take n) e w' := by
  have HU := Lib.hid hu
  have HV := Lib.hid hv
  have BU := Lib.hid bu
  have BV := Lib.hid bv
  have HP := Lib.hid hpre
  have HL := Lib.hid hus
  clear hu hv bu bv hpre hus
  go_enter Try.func166, Try.ntmps166
  go_wp2
  go_loopw [4, 5, 6, 7, 10] (fun t4 _ _ _ t10 wr => ∃ (i c : Nat) (zs : List Nat), (AbInv 4294967296 us (vv.take n) zs i c ∧ i ≤ n ∧ Ar wr g .u32 113 (pre ++ zs ++ post) ∧ Only g w wr ∧ Below g w wr) ∧ t4 = .int .u64 c ∧ t10 = .int .i64 i) (fun _ _ _ _ t10 _ => n - (intOf t10).toNat)
  case atStart => exact ⟨0, 0, us, ⟨AbInv.start BU.out, by omega, HU.out, Only.refl _ _, Below.refl _ _⟩, rfl, rfl⟩
  case round =>
    obtain ⟨i, c, zs, ⟨hinv, hi, har, honly, hbel⟩, rfl, rfl⟩ := hrel
    have hc1 := hinv.2.2.1
    have hzl := hinv.2.1
    have HI := Lib.hid hinv
    have HA := Lib.hid har
    have HO := Lib.hid honly
    have HB := Lib.hid hbel
    have HZ := Lib.hid hzl
    have hvr := HO.out.ar HV.out hne
    have HVR := Lib.hid hvr
    clear hinv har honly hbel hzl hvr
    by_cases hlt : i < n
    · obtain ⟨y, EY, hcy⟩ := HVR.out.cell' (j := i) (by omega)
      have hyb : y < 4294967296 := by rw [← EY.out]; exact getD_lt BV.out (by decide) i
      obtain ⟨z, EZ, hz⟩ := HA.out.mid HP.out (i := i) (by have := HZ.out; have := HL.out; omega)
      have hzb : z < 4294967296 := by rw [← EZ.out]; exact getD_lt HI.out.1 (by decide) i
      have hfz := HA.out.frozen (j + i)
      have HN := Lib.hid (HI.out.step (by decide) (by have := HL.out; omega) (by rw [getD_take hlt, EY.out]; exact hyb) (getD_lt BU.out (by decide) i) (z + y + c) (by rw [getD_take hlt, EY.out, EZ.out]))
      have e1 : ((z : Int) + y + c) % 4294967296 = (((z + y + c) % 4294967296 : Nat) : Int) := by omega
      have e2 : ((z : Int) + y + c) / 4294967296 = (((z + y + c) / 4294967296 : Nat) : Int) := by omega
      have E1 := Lib.hid e1
      have E2 := Lib.hid e2
      clear e1 e2
      go_wp2
      go_roundw
      case rel => exact ⟨i + 1, (z + y + c) / 4294967296, zs.set i ((z + y + c) % 4294967296), ⟨HN.out, by omega, HA.out.midset HP.out (by have := HZ.out; have := HL.out; omega) (by exact E1.out), HO.out.set_ _, HB.out.setCell (Nat.le_refl _) _⟩, congrArg (Value.int .u64) E2.out, by go_num⟩
      case measure => simp [intOf]; omega
    · have hii : i = n := by omega
      have hi2 := HI.out
      rw [hii] at hi2
      obtain ⟨z, EZ, hz⟩ := HA.out.mid HP.out (i := n) (by have := HZ.out; have := HL.out; omega)
      have hzb : z < 4294967296 := by rw [← EZ.out]; exact getD_lt HI.out.1 (by decide) n
      have hfz := HA.out.frozen (j + n)
      have hd := hi2.done (by decide) HL.out (by simp; omega)
      rw [EZ.out] at hd
      obtain ⟨d1, d2, k, d3⟩ := hd
      have HD := Lib.hid d3
      have D1 := Lib.hid d1
      have D2 := Lib.hid d2
      have e1 : IntKind.u32.wrap ((z : Int) + c) = (((z + c) % 4294967296 : Nat) : Int) := by simp only [IntKind.wrap_u32']; omega
      have E1 := Lib.hid e1
      clear d1 d2 d3 e1 hii hi2
      go_wp2
      exact bodyPost_ret (v := .tuple #[]) (by simp [results, Try.results166, go_sem]) rfl ⟨_, k, rfl, D1.out, D2.out, HD.out, HA.out.midset HP.out (by have := HZ.out; have := HL.out; omega) (by exact E1.out), HO.out.set_ _, HB.out.setCell (Nat.le_refl _) _⟩
/-! WALKS of the long division: the guess of a digit. -/
open Go.RowKit
set_option linter.unusedVariables false
set_option maxRecDepth 100000
theorem gu_top {B k : Nat} {us vs : List Nat} (hu : us.length = k + 3) (hv : vs.length = k + 2) (bv : ∀ v ∈ vs, v < B) (hB : 0 < B) (hlt : val B us < B * val B vs) : us.getD (k + 2) 0 ≤ vs.getD (k + 1) 0 := by
  rcases Nat.lt_or_ge (vs.getD (k + 1) 0) (us.getD (k + 2) 0) with h | h
  · exfalso
    have e1 := val_top3 B us k hu
    have e2 := val_top2 B vs k hv
    have r2 := val_lt B (vs.take k) (take_lt bv k)
    rw [List.length_take, Nat.min_eq_left (by omega)] at r2
    have b2 := getD_lt bv hB k
    have a1 : val B vs < (vs.getD (k + 1) 0 + 1) * B * B ^ k := by
      have h1 : (vs.getD (k + 1) 0 * B + vs.getD k 0 + 1) * B ^ k ≤ (vs.getD (k + 1) 0 + 1) * B * B ^ k := Nat.mul_le_mul_right _ (by rw [Nat.add_mul, Nat.one_mul]; omega)
      rw [Nat.add_mul _ 1, Nat.one_mul] at h1
      omega
    have a2 : B * val B vs < B * ((vs.getD (k + 1) 0 + 1) * B * B ^ k) := Nat.mul_lt_mul_of_pos_left a1 hB
    have a3 : (vs.getD (k + 1) 0 + 1) * B * B * B ^ k ≤ ((us.getD (k + 2) 0 * B + us.getD (k + 1) 0) * B + us.getD k 0) * B ^ k := by
      refine Nat.mul_le_mul_right _ ?_
      have h1 : (vs.getD (k + 1) 0 + 1) * B ≤ us.getD (k + 2) 0 * B := Nat.mul_le_mul_right _ h
      have h2 : (vs.getD (k + 1) 0 + 1) * B * B ≤ (us.getD (k + 2) 0 * B + us.getD (k + 1) 0) * B := Nat.mul_le_mul_right _ (by omega)
      omega
    have a4 : B * ((vs.getD (k + 1) 0 + 1) * B * B ^ k) = (vs.getD (k + 1) 0 + 1) * B * B * B ^ k := by
      rw [Nat.mul_comm B, Nat.mul_assoc _ (B ^ k) B, Nat.mul_comm (B ^ k) B, ← Nat.mul_assoc]
    omega
  · exact h
theorem gu_q {B k q : Nat} {us vs : List Nat} (hu : us.length = k + 3) (hv : vs.length = k + 2) (bu : ∀ u ∈ us, u < B) (hB : 0 < B) (hq : q * val B vs ≤ val B us) : q * vs.getD (k + 1) 0 ≤ us.getD (k + 2) 0 * B + us.getD (k + 1) 0 := by
  have e1 := val_top3 B us k hu
  have e2 := val_top2 B vs k hv
  have r1 := val_lt B (us.take k) (take_lt bu k)
  rw [List.length_take, Nat.min_eq_left (by omega)] at r1
  have b1 := getD_lt bu hB k
  have h1 : q * (vs.getD (k + 1) 0 * B * B ^ k) ≤ q * val B vs := by
    refine Nat.mul_le_mul_left _ ?_
    rw [e2, Nat.add_mul]; omega
  have h2 : val B us < (us.getD (k + 2) 0 * B + us.getD (k + 1) 0 + 1) * B * B ^ k := by
    have h3 : ((us.getD (k + 2) 0 * B + us.getD (k + 1) 0) * B + us.getD k 0 + 1) * B ^ k ≤ (us.getD (k + 2) 0 * B + us.getD (k + 1) 0 + 1) * B * B ^ k := Nat.mul_le_mul_right _ (by rw [Nat.add_mul _ 1, Nat.one_mul]; omega)
    rw [Nat.add_mul _ 1, Nat.one_mul] at h3
    omega
  have h4 : q * vs.getD (k + 1) 0 * (B * B ^ k) < (us.getD (k + 2) 0 * B + us.getD (k + 1) 0 + 1) * (B * B ^ k) := by
    have e3 : q * (vs.getD (k + 1) 0 * B * B ^ k) = q * vs.getD (k + 1) 0 * (B * B ^ k) := by rw [Nat.mul_assoc _ B, ← Nat.mul_assoc]
    rw [Nat.mul_assoc _ B] at h2
    omega
  have := Nat.lt_of_mul_lt_mul_right h4
  omega
theorem gu_break {T v1 v0 q G R p0 : Nat} (h : GInv v1 T q G R) (hT : T ≤ v1 * 4294967296 + 4294967295) (hC : 4294967296 ≤ R) (c0 : v0 < 4294967296) : G < 4294967296 ∧ G * v0 ≤ R * 4294967296 + p0 := by
  have h1 : G * v1 < 4294967296 * v1 := by have := h.1; omega
  have h2 := Nat.lt_of_mul_lt_mul_right h1
  have h3 : G * v0 ≤ 4294967296 * 4294967296 := Nat.mul_le_mul (by omega) (by omega)
  exact ⟨h2, by omega⟩
/-- what guessWord hands back -/
def GuOut (U V : Nat) (w : World) (e : Ending) (w' : World) : Prop := ∃ g : Nat, e = .returned (.int .u32 g) ∧ g < 4294967296 ∧ U / V ≤ g ∧ g ≤ U / V + 1 ∧ Dr w w'
set_option maxHeartbeats 2000000 in
theorem guess_any (g gv k j cp cv : Nat) (pre us post vv : List Nat) (w : World) (hpre : pre.length = j) (hus : us.length = k + 3) (hn : k + 2 ≤ vv.length) (hnm : k ≤ 4294967290) (hjm : j ≤ 4294967296) (hcp : k + 3 ≤ cp) (hcpm : cp ≤ 9223372036854775807) (hcv : k + 2 ≤ cv) (hcvm : cv ≤ 9223372036854775807)
    (bu : ∀ u ∈ us, u < 4294967296) (bv : ∀ v ∈ vv, v < 4294967296) (hu : Ar w g .u32 113 (pre ++ us ++ post)) (hv : Ar w gv .u32 113 vv) (hhigh : 2147483648 ≤ vv.getD (k + 1) 0) (hlt : val 4294967296 us < 4294967296 * val 4294967296 (vv.take (k + 2))) :
    Calls Try.prog 164 #[.slice (some ⟨g, j, none⟩) (k + 3 : Nat) cp, .slice (some ⟨gv, 0, none⟩) (k + 2 : Nat) cv] w fun e w' => GuOut (val 4294967296 us) (val 4294967296 (vv.take (k + 2))) w e w' := by
  obtain ⟨p2, EP2, hp2⟩ := hu.mid hpre (i := k + 2) (by omega)
  obtain ⟨p1, EP1, hp1⟩ := hu.mid hpre (i := k + 1) (by omega)
  obtain ⟨p0, EP0, hp0⟩ := hu.mid hpre (i := k) (by omega)
  obtain ⟨v1, EV1, hv1⟩ := hv.cell' (j := k + 1) (by omega)
  obtain ⟨v0, EV0, hv0⟩ := hv.cell' (j := k) (by omega)
  have b2 : p2 < 4294967296 := by rw [← EP2.out]; exact getD_lt bu (by decide) _
  have b1 : p1 < 4294967296 := by rw [← EP1.out]; exact getD_lt bu (by decide) _
  have b0 : p0 < 4294967296 := by rw [← EP0.out]; exact getD_lt bu (by decide) _
  have c1 : v1 < 4294967296 := by rw [← EV1.out]; exact getD_lt bv (by decide) _
  have c0 : v0 < 4294967296 := by rw [← EV0.out]; exact getD_lt bv (by decide) _
  rw [EV1.out] at hhigh
  have T1 : (vv.take (k + 2)).getD (k + 1) 0 = v1 := by rw [getD_take (by omega), EV1.out]
  have T0 : (vv.take (k + 2)).getD k 0 = v0 := by rw [getD_take (by omega), EV0.out]
  have htop := gu_top hus (by simp; omega) (take_lt bv _) (by decide) hlt
  rw [EP2.out, T1] at htop
  have hV0 : 0 < val 4294967296 (vv.take (k + 2)) := by
    rcases Nat.eq_zero_or_pos (val 4294967296 (vv.take (k + 2))) with h | h
    · rw [h] at hlt; omega
    · exact h
  have hqB : val 4294967296 us / val 4294967296 (vv.take (k + 2)) < 4294967296 := by rw [Nat.div_lt_iff_lt_mul hV0]; exact hlt
  have hqh := gu_q hus (by simp; omega : (vv.take (k + 2)).length = k + 2) bu (by decide) (Nat.div_mul_le_self (val 4294967296 us) (val 4294967296 (vv.take (k + 2))))
  rw [T1, EP2.out, EP1.out] at hqh
  have e1 := val_top3 4294967296 us k hus
  have e2 := val_top2 4294967296 (vv.take (k + 2)) k (by simp; omega)
  have r1 := val_lt 4294967296 (us.take k) (take_lt bu k)
  have r2 := val_lt 4294967296 ((vv.take (k + 2)).take k) (take_lt (take_lt bv _) k)
  rw [List.length_take, Nat.min_eq_left (by omega)] at r1
  rw [List.length_take, Nat.min_eq_left (by simp; omega)] at r2
  rw [EP2.out, EP1.out, EP0.out] at e1
  rw [T1, T0] at e2
  have HE1 := Lib.hid e1
  have HE2 := Lib.hid e2
  have HR1 := Lib.hid r1
  have HR2 := Lib.hid r2
  clear e1 e2 r1 r2 T0 T1 hu hv bu bv hlt hV0
  generalize hq : val 4294967296 us / val 4294967296 (vv.take (k + 2)) = q at *
  have HQ := Lib.hid hq
  clear hq
  go_enter Try.func164, Try.ntmps164
  go_wp2
  go_quiet (fail)
  go_wp2
  have D1 : Hid (Dr w (w.drewN nq)) := Lib.hid ⟨nq, rfl⟩
  have a2 : (w.drewN nq).cell? ⟨g, j + (k + 2), none⟩ = some (.int .u32 p2) := hp2
  have a1 : (w.drewN nq).cell? ⟨g, j + (k + 1), none⟩ = some (.int .u32 p1) := hp1
  have a0 : (w.drewN nq).cell? ⟨g, j + k, none⟩ = some (.int .u32 p0) := hp0
  clear hp2 hp1 hp0 hv1 hv0
  generalize w.drewN nq = w1 at *
  obtain ⟨T, hT⟩ : ∃ T : Nat, T = p2 * 4294967296 + p1 := ⟨_, rfl⟩
  have hor := or_word p2 p1 b2 b1
  rw [show (p2 : Int) * 4294967296 + p1 = (T : Int) from by omega] at hor
  rw [← hT] at hqh HE1
  have hTb : T ≤ 18446744073709551615 := by omega
  have hTh : T ≤ v1 * 4294967296 + 4294967295 := by omega
  have HT := Lib.hid hT
  clear hT
  go_quiet (fail)
  go_wp2
  have D2 : Hid (Dr w (w1.drewN nq)) := Lib.hid (D1.out.step nq)
  have z0 : (w1.drewN nq).cell? ⟨g, j + k, none⟩ = some (.int .u32 p0) := a0
  clear a2 a1 a0 hor D1
  generalize w1.drewN nq = w2 at *
  obtain ⟨G0, hG⟩ : ∃ G0, T / v1 = G0 := ⟨_, rfl⟩
  obtain ⟨R0, hR⟩ : ∃ R0, T % v1 = R0 := ⟨_, rfl⟩
  have eGR := Nat.div_add_mod T v1
  have hR0 : R0 < v1 := by rw [← hR]; exact Nat.mod_lt _ (by omega)
  have hG0 : G0 ≤ T := by rw [← hG]; exact Nat.div_le_self _ _
  rw [hG, hR, Nat.mul_comm] at eGR
  have ed : (T : Int) / v1 = (G0 : Int) := by rw [← hG, Int.natCast_ediv]
  have em : (T : Int) % v1 = (R0 : Int) := by rw [← hR, Int.natCast_emod]
  have hGq : q ≤ G0 := by rw [← hG, Nat.le_div_iff_mul_le (by omega)]; exact hqh
  have hGB : G0 ≤ 4294967297 := by
    have h1 : G0 * v1 < 4294967298 * v1 := by omega
    have := Nat.lt_of_mul_lt_mul_right h1
    omega
  have EGR := Lib.hid eGR
  have EM := Lib.hid em
  clear hG hR eGR em
  go_quiet (fail)
  go_wp2
  have y0 : (w2.drewN nq).cell? ⟨g, j + k, none⟩ = some (.int .u32 p0) := z0
  have D3 : Hid (Dr w (w2.drewN nq)) := Lib.hid (D2.out.step nq)
  clear ed D2 z0
  generalize w2.drewN nq = w3 at *
  have HTH := Lib.hid hTh
  go_loop [9, 10] (fun t9 t10 => ∃ G R : Nat, (GInv v1 T q G R ∧ G ≤ 4294967297 ∧ R < 4294967296) ∧ t9 = .int .u64 G ∧ t10 = .int .u64 R) (fun t9 _ => (intOf t9).toNat)
  case atStart => exact ⟨G0, R0, ⟨⟨EGR.out, hGq⟩, hGB, by omega⟩, rfl, congrArg (Value.int .u64) EM.out⟩
  case round =>
    obtain ⟨G, R, ⟨hinv, hGb, hRb⟩, rfl, rfl⟩ := hrel
    have HI := Lib.hid hinv
    clear hinv
    by_cases hA : 4294967296 ≤ G
    · have ht : ((G : Int) / 4294967296 != 0) = true := by rw [bne_iff_ne]; omega
      have HN := Lib.hid (HI.out.next (by omega))
      by_cases hC : 4294967296 ≤ R + v1
      · have hr : (((R : Int) + v1) / 4294967296 != 0) = true := by rw [bne_iff_ne]; omega
        obtain ⟨hgl, hle⟩ := gu_break (p0 := p0) HN.out HTH.out hC c0
        have HF := Lib.hid (HN.out.done HE2.out HR2.out HE1.out HR1.out HQ.out.symm hqB hle hgl (by omega))
        clear hle
        go_wp2
        go_ret
        exact ⟨G - 1, retk (by omega), hgl, by rw [HQ.out]; exact HF.out.1, by rw [HQ.out]; exact HF.out.2, D3.out⟩
      · have hr : (((R : Int) + v1) / 4294967296 != 0) = false := by rw [bne_eq_false_iff_eq]; omega
        go_wp2
        go_round
        case rel => exact ⟨G - 1, R + v1, ⟨HN.out, by omega, by omega⟩, congrArg (Value.int .u64) (by omega), by go_num⟩
        case measure => simp [intOf]; omega
    · have ht : ((G : Int) / 4294967296 != 0) = false := by rw [bne_eq_false_iff_eq]; omega
      have hgv := mul_le_u32 G v0 (by omega) c0
      have hg1 : 0 ≤ (G : Int) * v0 := by rw [← Int.natCast_mul]; omega
      have hg2 : (G : Int) * v0 ≤ 18446744065119617025 := by rw [← Int.natCast_mul]; omega
      have hor := or_word R p0 hRb b0
      by_cases hD : R * 4294967296 + p0 < G * v0
      · have hd : decide ((R : Int) * 4294967296 + p0 < (G : Int) * v0) = true := by rw [decide_eq_true_iff, ← Int.natCast_mul]; omega
        have hq1 : q < G := kn_lt HE2.out HE1.out HR1.out HI.out.1 hD (by rw [← HQ.out]; exact Nat.div_mul_le_self _ _)
        have HN := Lib.hid (HI.out.next hq1)
        clear hD hgv
        by_cases hC : 4294967296 ≤ R + v1
        · have hr : (((R : Int) + v1) / 4294967296 != 0) = true := by rw [bne_iff_ne]; omega
          obtain ⟨hgl, hle⟩ := gu_break (p0 := p0) HN.out HTH.out hC c0
          have HF := Lib.hid (HN.out.done HE2.out HR2.out HE1.out HR1.out HQ.out.symm hqB hle hgl (by omega))
          clear hle
          go_wp2
          go_ret
          exact ⟨G - 1, retk (by omega), hgl, by rw [HQ.out]; exact HF.out.1, by rw [HQ.out]; exact HF.out.2, D3.out⟩
        · have hr : (((R : Int) + v1) / 4294967296 != 0) = false := by rw [bne_eq_false_iff_eq]; omega
          go_wp2
          go_round
          case rel => exact ⟨G - 1, R + v1, ⟨HN.out, by omega, by omega⟩, congrArg (Value.int .u64) (by omega), by go_num⟩
          case measure => simp [intOf]; omega
      · have hd : decide ((R : Int) * 4294967296 + p0 < (G : Int) * v0) = false := by rw [decide_eq_false_iff_not, ← Int.natCast_mul]; omega
        have hF := HI.out.done HE2.out HR2.out HE1.out HR1.out HQ.out.symm hqB (by omega) (by omega) (by omega)
        have HF := Lib.hid hF
        clear hD hgv hF
        go_wp2
        go_ret
        exact ⟨G, retk (by omega), by omega, by rw [HQ.out]; exact HF.out.1, by rw [HQ.out]; exact HF.out.2, D3.out⟩
end Go.Proofs.Ytcbdnnboddahkaa.Ws
