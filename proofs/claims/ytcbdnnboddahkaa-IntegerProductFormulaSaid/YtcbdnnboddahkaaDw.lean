/-
  The long division, round by round; WALKS of words divided by words.
-/
import Derived.Test.YtcbdnnboddahkaaKn
import Derived.Test.YtcbdnnboddahkaaShelf
import Derived.Test.YtcbdnnboddahkaaAddI
import Derived.Test.YtcbdnnboddahkaaSign
namespace Go.Proofs.Ytcbdnnboddahkaa.Ws
/-! The long division, round by round. Plain mathematics, and the number of leading zeros. -/
open Go.RowKit
set_option linter.unusedVariables false
theorem bl_bounds (x : Nat) : x ≠ 0 → x < 4294967296 → 1 ≤ Lib.bitLen x ∧ Lib.bitLen x ≤ 32 ∧ 2 ^ (Lib.bitLen x - 1) ≤ x ∧ x < 2 ^ Lib.bitLen x := by
  have key : ∀ (f x : Nat), x < 2 ^ f → f ≤ 32 → x ≠ 0 → 1 ≤ Lib.bitLen x ∧ Lib.bitLen x ≤ f ∧ 2 ^ (Lib.bitLen x - 1) ≤ x ∧ x < 2 ^ Lib.bitLen x := by
    intro f
    induction f with
    | zero => intro x h _ h0; simp at h; omega
    | succ f ih =>
      intro x h hf h0
      have h64 : x < 2 ^ 64 := Nat.lt_of_lt_of_le h (Nat.pow_le_pow_right (by decide) (by omega))
      by_cases h1 : x = 1
      · subst h1
        rw [show Lib.bitLen 1 = 1 from by decide +kernel]
        exact ⟨by omega, by omega, by decide, by decide⟩
      · obtain ⟨a, b, c, d⟩ := ih (x / 2) (by rw [Nat.pow_succ] at h; omega) (by omega) (by omega)
        rw [Lib.bitLen_half x h0 h64]
        obtain ⟨m, hm⟩ : ∃ m, Lib.bitLen (x / 2) = m + 1 := ⟨Lib.bitLen (x / 2) - 1, by omega⟩
        rw [hm] at b c d ⊢
        rw [Nat.add_sub_cancel] at c
        rw [show 1 + (m + 1) - 1 = m + 1 from by omega, show 1 + (m + 1) = m + 1 + 1 from by omega]
        refine ⟨by omega, by omega, ?_, ?_⟩
        · rw [Nat.pow_succ]; omega
        · rw [Nat.pow_succ 2 (m + 1)]; omega
  intro h0 hx
  exact key 32 x hx (by omega) h0
/-- the shift that sets the highest bit -/
theorem lz_facts (t : Nat) (h0 : t ≠ 0) (ht : t < 4294967296) : ∃ s P Q : Nat, s ≤ 31 ∧ P = 2 ^ s ∧ P * Q = 4294967296 ∧ 2147483648 ≤ t * P ∧ (t + 1) * P ≤ 4294967296 ∧ (32 : Int) - (Lib.bitLen t : Int) = (s : Int) := by
  obtain ⟨a, b, c, d⟩ := bl_bounds t h0 ht
  obtain ⟨L, hL⟩ : ∃ L, Lib.bitLen t = L + 1 := ⟨Lib.bitLen t - 1, by omega⟩
  rw [hL] at a b c d
  rw [Nat.add_sub_cancel] at c
  have e1 : 2 ^ L * 2 ^ (31 - L) = 2147483648 := by rw [← Nat.pow_add, show L + (31 - L) = 31 from by omega]
  have e2 : 2 ^ (L + 1) * 2 ^ (31 - L) = 4294967296 := by rw [← Nat.pow_add, show L + 1 + (31 - L) = 32 from by omega]
  refine ⟨31 - L, 2 ^ (31 - L), 2 ^ (L + 1), by omega, rfl, by rw [Nat.mul_comm]; exact e2, ?_, ?_, by rw [hL]; omega⟩
  · rw [← e1]; exact Nat.mul_le_mul_right _ c
  · rw [← e2]; exact Nat.mul_le_mul_right _ d
theorem lz_any (t s : Nat) (w : World) (ht : t < 4294967296) (hs : (32 : Int) - (Lib.bitLen t : Int) = (s : Int)) :
    Calls Try.prog 151 #[.int .u32 t] w fun e w' => e = .returned (.int .i64 s) ∧ w = w' := by
  refine (Try.bits_LeadingZeros32 (t : Int) w (by omega) (by omega)).mono ?_
  rintro e w' ⟨rfl, rfl⟩
  rw [Int.toNat_natCast, hs]
  exact ⟨rfl, rfl⟩
/-- the highest word -/
theorem top_word (b n : Nat) (h : (W b).length = n + 1) : (W b).getD n 0 ≠ 0 ∧ 4294967296 ^ n * (W b).getD n 0 ≤ b ∧ b < 4294967296 ^ n * ((W b).getD n 0 + 1) := by
  have hv := val_take_succ 4294967296 (W b) n
  rw [List.take_of_length_le (by omega), val_W] at hv
  have hl := val_lt 4294967296 ((W b).take n) (take_lt (W_lt b) n)
  rw [List.length_take, Nat.min_eq_left (by omega)] at hl
  refine ⟨fun h0 => ?_, by omega, by rw [Nat.mul_add, Nat.mul_one]; omega⟩
  rw [h0, Nat.mul_zero, Nat.add_zero] at hv
  have := dgs_length_le 4294967296 (by decide) n b (by omega)
  unfold W at h; omega
/-- the shifted divisor -/
theorem dl_div {b n P : Nat} {vv : List Nat} (h : (W b).length = n + 1) (hlen : vv.length = n + 1 + 1) (hb : ∀ v ∈ vv, v < 4294967296) (hv : val 4294967296 vv = b * P) (h1 : 2147483648 ≤ (W b).getD n 0 * P) (h2 : ((W b).getD n 0 + 1) * P ≤ 4294967296) (hP : 1 ≤ P) :
    val 4294967296 (vv.take (n + 1)) = b * P ∧ 2147483648 ≤ vv.getD n 0 ∧ 4294967296 ^ n * 2147483648 ≤ b * P := by
  obtain ⟨t0, t1, t2⟩ := top_word b n h
  have e1 := val_take_succ 4294967296 vv (n + 1)
  rw [List.take_of_length_le (by omega), hv] at e1
  have e2 := val_take_succ 4294967296 vv n
  have l1 := val_lt 4294967296 (vv.take n) (take_lt hb n)
  rw [List.length_take, Nat.min_eq_left (by omega)] at l1
  have hlt : b * P < 4294967296 ^ (n + 1) := by
    have h3 : b * P < 4294967296 ^ n * ((W b).getD n 0 + 1) * P := Nat.mul_lt_mul_of_pos_right t2 hP
    have h4 : 4294967296 ^ n * (((W b).getD n 0 + 1) * P) ≤ 4294967296 ^ n * 4294967296 := Nat.mul_le_mul_left _ h2
    rw [← Nat.mul_assoc] at h4
    rw [Nat.pow_succ]; omega
  have hz : vv.getD (n + 1) 0 = 0 := by
    rcases Nat.eq_zero_or_pos (vv.getD (n + 1) 0) with h | h
    · exact h
    · have := Nat.mul_le_mul_left (4294967296 ^ (n + 1)) h
      omega
  rw [hz, Nat.mul_zero, Nat.add_zero] at e1
  have hge : 4294967296 ^ n * 2147483648 ≤ b * P := by
    have h3 : 4294967296 ^ n * (W b).getD n 0 * P ≤ b * P := Nat.mul_le_mul_right _ t1
    have h4 : 4294967296 ^ n * 2147483648 ≤ 4294967296 ^ n * ((W b).getD n 0 * P) := Nat.mul_le_mul_left _ h1
    rw [← Nat.mul_assoc] at h4
    omega
  refine ⟨e1.symm, ?_, hge⟩
  have h5 : 4294967296 ^ n * 2147483648 < 4294967296 ^ n * (vv.getD n 0 + 1) := by
    rw [Nat.mul_add, Nat.mul_one]; omega
  have := Nat.lt_of_mul_lt_mul_left h5
  omega
/-- what a round of the long division keeps; k digits of the quotient are still to come -/
def DlInv (V X n : Nat) (us qs : List Nat) (k : Nat) : Prop :=
  (∀ u ∈ us, u < 4294967296) ∧ (∀ q ∈ qs, q < 4294967296) ∧ us.length = qs.length + n ∧ k ≤ qs.length ∧ val 4294967296 us + 4294967296 ^ k * (V * val 4294967296 (qs.drop k)) = X ∧ val 4294967296 (us.drop k) < V
theorem DlInv.start {V a n P m : Nat} {us : List Nat} (hb : ∀ u ∈ us, u < 4294967296) (hl : us.length = (W a).length + 1) (hm : m + (n + 1) = (W a).length + 1) (hv : val 4294967296 us = a * P) (hP : P ≤ 2147483648) (hP1 : 1 ≤ P) (hge : 4294967296 ^ n * 2147483648 ≤ V) :
    DlInv V (a * P) (n + 1) us (List.replicate m 0) m := by
  refine ⟨hb, fun z hz => by have := List.eq_of_mem_replicate hz; omega, by simp; omega, by simp, ?_, ?_⟩
  · rw [List.drop_of_length_le (by simp)]; simp [val, hv]
  · have e1 := val_split 4294967296 us m (by omega)
    have e2 := dgs_length_lt 4294967296 (by decide) a
    have e3 : a * P < 4294967296 ^ (m + n) * P := by
      refine Nat.mul_lt_mul_of_pos_right ?_ hP1
      have : (W a).length = m + n := by omega
      rw [← this]; exact e2
    have e4 : 4294967296 ^ (m + n) * P ≤ 4294967296 ^ m * V := by
      rw [Nat.pow_add, Nat.mul_assoc]
      refine Nat.mul_le_mul_left _ (Nat.le_trans (Nat.mul_le_mul_left _ hP) hge)
    have e5 : 4294967296 ^ m * val 4294967296 (us.drop m) < 4294967296 ^ m * V := by omega
    exact Nat.lt_of_mul_lt_mul_left e5
/-- the part of a round -/
theorem DlInv.part {V X n j : Nat} {us qs : List Nat} (h : DlInv V X n us qs (j + 1)) (hV : V < 4294967296 ^ n) :
    us = us.take j ++ (us.drop j).take (n + 1) ++ us.drop (j + (n + 1)) ∧ (us.take j).length = j ∧ ((us.drop j).take (n + 1)).length = n + 1 ∧ (∀ u ∈ (us.drop j).take (n + 1), u < 4294967296) ∧ val 4294967296 ((us.drop j).take (n + 1)) < 4294967296 * V
    ∧ val 4294967296 us = val 4294967296 (us.take j) + 4294967296 ^ j * val 4294967296 ((us.drop j).take (n + 1)) ∧ val 4294967296 (us.drop (j + (n + 1))) = 0 := by
  obtain ⟨h1, h2, h3, h4, h5, h6⟩ := h
  have hz : val 4294967296 (us.drop (j + (n + 1))) = 0 := by
    have e := val_split 4294967296 (us.drop (j + 1)) n (by simp; omega)
    rw [List.drop_drop, show j + 1 + n = j + (n + 1) from by omega] at e
    rcases Nat.eq_zero_or_pos (val 4294967296 (us.drop (j + (n + 1)))) with h | h
    · exact h
    · have := Nat.mul_le_mul_left (4294967296 ^ n) h
      omega
  have e := val_split 4294967296 (us.drop j) (n + 1) (by simp; omega)
  rw [List.drop_drop, hz, Nat.mul_zero, Nat.add_zero] at e
  have e2 := val_split 4294967296 us j (by omega)
  rw [e] at e2
  refine ⟨?_, by simp; omega, by simp; omega, take_lt (drop_lt h1 _) _, ?_, e2, hz⟩
  · rw [List.append_assoc, ← List.drop_drop, List.take_append_drop, List.take_append_drop]
  · rw [← e, val_drop 4294967296 us j (by omega)]
    have hb := getD_lt h1 (by decide) j
    omega
theorem DlInv.step {V X n j : Nat} {us qs zs : List Nat} (h : DlInv V X n us qs (j + 1)) (hV : V < 4294967296 ^ n) (hV0 : 0 < V) (hzl : zs.length = n + 1) (hzb : ∀ z ∈ zs, z < 4294967296) (q : Nat) (hq : q = val 4294967296 ((us.drop j).take (n + 1)) / V) (hqv : val 4294967296 zs + q * V = val 4294967296 ((us.drop j).take (n + 1))) :
    DlInv V X n (us.take j ++ zs ++ us.drop (j + (n + 1))) (qs.set j q) j := by
  obtain ⟨p1, p2, p3, p4, p5, p6, p7⟩ := h.part hV
  obtain ⟨h1, h2, h3, h4, h5, h6⟩ := h
  have hr : val 4294967296 zs < V := by
    have := Nat.mod_lt (val 4294967296 ((us.drop j).take (n + 1))) hV0
    have e := Nat.div_add_mod (val 4294967296 ((us.drop j).take (n + 1))) V
    rw [← hq, Nat.mul_comm] at e
    omega
  have hqB : q < 4294967296 := by rw [hq, Nat.div_lt_iff_lt_mul hV0]; exact p5
  have hz2 : val 4294967296 (zs ++ us.drop (j + (n + 1))) = val 4294967296 zs := by rw [val_append, p7]; simp
  refine ⟨?_, mem_set_lt h2 hqB, by simp; omega, by simp; omega, ?_, ?_⟩
  · intro u hu
    rw [List.append_assoc] at hu
    rcases List.mem_append.1 hu with hu | hu
    · exact take_lt h1 j u hu
    · rcases List.mem_append.1 hu with hu | hu
      · exact hzb u hu
      · exact drop_lt h1 _ u hu
  · rw [List.append_assoc, val_append, hz2, p2, val_drop 4294967296 _ j (by simp; omega), getD_set, if_pos ⟨rfl, by omega⟩, drop_set_lt _ _ _ _ (by omega), ← h5, p6, ← hqv, Nat.pow_succ, Nat.mul_add V, Nat.mul_add (4294967296 ^ j), Nat.mul_add (4294967296 ^ j), Nat.mul_comm V q, Nat.mul_assoc (4294967296 ^ j) 4294967296, Nat.mul_left_comm 4294967296 V]
    omega
  · rw [List.append_assoc, List.drop_append_of_le_length (by omega), List.drop_of_length_le (by omega), List.nil_append, hz2]
    exact hr
theorem DlInv.done {V X n : Nat} {us qs : List Nat} (h : DlInv V X n us qs 0) : val 4294967296 qs = X / V ∧ val 4294967296 us = X % V := by
  obtain ⟨h1, h2, h3, h4, h5, h6⟩ := h
  simp only [List.drop_zero, Nat.pow_zero, Nat.one_mul] at h5 h6
  rw [← h5]
  constructor
  · rw [Nat.add_mul_div_left _ _ (by omega), Nat.div_eq_of_lt h6, Nat.zero_add]
  · rw [Nat.add_mul_mod_self_left, Nat.mod_eq_of_lt h6]
theorem dl_end {a b P : Nat} (hP : 1 ≤ P) : a * P / (b * P) = a / b ∧ a * P % (b * P) = a % b * P := ⟨Nat.mul_div_mul_right _ _ hP, Nat.mul_mod_mul_right _ _ _⟩
/-- the guess was right -/
theorem dl_right {U V G z : Nat} (h : z + G * V = U) (h1 : U / V ≤ G) (hV : 0 < V) : G = U / V := by
  have : G ≤ U / V := by rw [Nat.le_div_iff_mul_le hV]; omega
  omega
/-- the guess was one too much -/
theorem dl_over {U V G z P : Nat} (h : z + G * V = U + P) (hz : z < P) (h1 : U / V ≤ G) (h2 : G ≤ U / V + 1) (hV : 0 < V) : 1 ≤ G ∧ G - 1 = U / V ∧ (G - 1) * V ≤ U := by
  have hd := Nat.div_mul_le_self U V
  generalize U / V = Q at *
  have h3 : G ≠ Q := by
    intro h4
    subst h4
    omega
  have h4 : G - 1 = Q := by omega
  refine ⟨by omega, h4, ?_⟩
  rw [h4]; exact hd
/-! WALKS: words divided by words. -/
open Go.RowKit
set_option linter.unusedVariables false
set_option maxRecDepth 100000
/-- quotient and remainder as words -/
def QrOut (a b : Nat) (w : World) (e : Ending) (w' : World) : Prop := ∃ A c C d, e = .returned (.tuple #[.slice A (W (a / b)).length c, .slice C (W (a % b)).length d]) ∧ Sl w' .u32 A c (W (a / b)) ∧ Sl w' .u32 C d (W (a % b)) ∧ Below w.heap.size w w'
def ShOut' (w : World) (xs : List Nat) (n P : Nat) (e : Ending) (w' : World) : Prop := ∃ zs : List Nat, e = .returned (.slice (some ⟨w.heap.size, 0, none⟩) (n + 1 : Nat) (n + 1 : Nat)) ∧ zs.length = n + 1 ∧ Ar w' w.heap.size .u32 113 zs ∧ (∀ z ∈ zs, z < 4294967296) ∧ val 4294967296 zs = val 4294967296 xs * P ∧ Below w.heap.size w w'
theorem shl_n (A : Option Addr) (c n : Nat) (xs : List Nat) (s P Q : Nat) (w : World) (hx : Sl w .u32 A c xs) (hn : xs.length = n) (bx : ∀ x ∈ xs, x < 4294967296) (hlx : n ≤ 4294967295) (hs : s ≤ 31) (hP : P = 2 ^ s) (hPQ : P * Q = 4294967296) :
    Calls Try.prog 163 #[.slice A n c, .int .i64 s] w fun e w' => ShOut' w xs n P e w' := by
  subst hn; exact shl_any A c xs s P Q w hx bx hlx hs hP hPQ
theorem shr_n (A : Option Addr) (c n N R : Nat) (xs : List Nat) (s P Q : Nat) (w : World) (hx : Sl w .u32 A c xs) (hn : xs.length = n) (bx : ∀ x ∈ xs, x < 4294967296) (hlx : n ≤ 4294967295) (hs : s ≤ 31) (hP : P = 2 ^ s) (hPQ : P * Q = 4294967296) (hv : val 4294967296 xs = N) (hR : N / P = R) :
    Calls Try.prog 152 #[.slice A n c, .int .i64 s] w fun e w' => SlOut w .u32 (W R) e w' := by
  subst hn hv hR; exact shr_any A c xs s P Q w hx bx hlx hs hP hPQ
set_option maxHeartbeats 4000000 in
theorem divl_any (X Y : Option Addr) (cx cy a b k : Nat) (w : World) (hx : Sl w .u32 X cx (W a)) (hy : Sl w .u32 Y cy (W b)) (hk : (W b).length = k + 2) (hle : (W b).length ≤ (W a).length) (hlen : (W a).length ≤ 4294967280) :
    Calls Try.prog 150 #[.slice X (W a).length cx, .slice Y (W b).length cy] w fun e w' => QrOut a b w e w' := by
  obtain ⟨t0, t1, t2⟩ := top_word b (k + 1) (by omega)
  obtain ⟨tb, to, t, rfl, ET, htc, htl⟩ := hy.rd.at_ (j := k + 1) (by omega)
  have htb : t < 4294967296 := by rw [← ET.out]; exact getD_lt (W_lt b) (by decide) _
  rw [ET.out] at t0
  obtain ⟨s, P, Q, hs, hP, hPQ, hf1, hf2, hlz⟩ := lz_facts t t0 htb
  obtain ⟨hP1, hP2⟩ := pow31 hs hP
  have hcx := hx.le
  have hcxm := hx.max
  have hcy := hy.le
  have hcym := hy.max
  have HX := Lib.hid hx
  have HY := Lib.hid hy
  have HK := Lib.hid hk
  have HT := Lib.hid t1
  have HP := Lib.hid hP
  have HLZ := Lib.hid hlz
  clear hx hy t1 t2 hP hlz
  obtain ⟨m, hm⟩ : ∃ m, (W a).length = m + k + 1 := ⟨(W a).length - k - 1, by omega⟩
  have hm1 : 1 ≤ m := by omega
  have HM := Lib.hid hm
  rw [hm] at hlen hcx
  rw [hk] at hcy
  rw [hm, hk]
  clear hm hk hle
  go_enter Try.func150, Try.ntmps150
  go_wp2_with fail
  refine (lz_any t s _ htb HLZ.out).mono ?_
  rintro e w' ⟨rfl, rfl⟩
  go_wp2_with fail
  refine (shl_n X cx (m + k + 1) (W a) s P Q _ HX.out HM.out (W_lt a) (by omega) hs HP.out hPQ).mono ?_
  rintro e w1 ⟨us, rfl, hul, hau, hub, huv, hb1⟩
  rw [val_W] at huv
  have HU1 := Lib.hid hau
  have HUL := Lib.hid hul
  have HUB := Lib.hid hub
  have HUV := Lib.hid huv
  have HB1 := Lib.hid hb1
  have hz1 := hau.lt
  clear hul hau hub huv hb1
  go_wp2_with fail
  refine (shl_n (some ⟨tb, to, none⟩) cy (k + 2) (W b) s P Q _ (HY.out.below HB1.out) HK.out (W_lt b) (by omega) hs HP.out hPQ).mono ?_
  rintro e w2 ⟨vv, rfl, hvl, hav, hvb, hvv, hb2⟩
  rw [val_W] at hvv
  have HV2 := Lib.hid hav
  have HU2 := Lib.hid (HU1.out.below hb2 hz1)
  have HVL := Lib.hid hvl
  have HVB := Lib.hid hvb
  have HVV := Lib.hid hvv
  have HB2 := Lib.hid (HB1.out.trans (hb2.mono HB1.out.size))
  have hz2 := hav.lt
  clear hvl hav hvb hvv hb2 HU1 HB1
  obtain ⟨dv1, dv2, dv3⟩ := dl_div (n := k + 1) (by have := HK.out; omega) (by have := HVL.out; omega) HVB.out HVV.out (by rw [ET.out]; exact hf1) (by rw [ET.out]; exact hf2) hP1
  have DV1 : Hid (val 4294967296 (vv.take (k + 2)) = b * P) := Lib.hid dv1
  have DV2 := Lib.hid dv2
  have DV2 := Lib.hid dv2
  have hst := DlInv.start (m := m) HUB.out (by have := HM.out; have := HUL.out; omega) (by have := HM.out; omega) HUV.out hP2 hP1 dv3
  have HST := Lib.hid hst
  have hbp : b * P < 4294967296 ^ (k + 2) := by
    have := val_lt 4294967296 (vv.take (k + 2)) (take_lt HVB.out _)
    rw [List.length_take, Nat.min_eq_left (by have := HVL.out; omega)] at this
    rw [← dv1]; exact this
  have hbp0 : 0 < b * P := Nat.lt_of_lt_of_le (Nat.mul_pos (Nat.pow_pos (by decide)) (by decide)) dv3
  have HBP := Lib.hid hbp
  have HBP0 := Lib.hid hbp0
  clear dv1 dv2 dv3 hst hf1 hf2 hbp hbp0
  have hmk := makeW m (by omega) ((m : Int) + k + 1 + 1 - ((k : Int) + 2)) (by omega)
  go_wp2
  have HU3 := Lib.hid (HU2.out.alloc (newAr .u32 113 (List.replicate m 0)))
  have HV3 := Lib.hid (HV2.out.alloc (newAr .u32 113 (List.replicate m 0)))
  have HQ3 := Lib.hid (Ar.new' w2 .u32 113 (List.replicate m 0))
  have HB3 := Lib.hid (HB2.out.alloc HB2.out.size (newAr .u32 113 (List.replicate m 0)))
  go_loopw [10, 11, 12] (fun t10 _ _ wr => ∃ (j : Nat) (us qs : List Nat), (DlInv (b * P) (a * P) (k + 2) us qs j ∧ qs.length = m ∧ Ar wr w.heap.size .u32 113 us ∧ Ar wr w1.heap.size .u32 113 vv ∧ Ar wr w2.heap.size .u32 113 qs ∧ Below w.heap.size w wr) ∧ t10 = .int .i64 ((j : Int) - 1)) (fun t10 _ _ _ => (intOf t10 + 1).toNat)
  case atStart => exact ⟨m, us, _, ⟨HST.out, by simp, HU3.out, HV3.out, HQ3.out, HB3.out⟩, rfl⟩
  case round =>
    clear HU2 HV2 HU3 HV3 HQ3 HB3 hmk HUL HUB HUV HST
    obtain ⟨j, us, qs, ⟨hinv, hql, hau, hav, haq, hbel⟩, rfl⟩ := hrel
    obtain ⟨wo, rfl⟩ : ∃ wo : World, wo = wr := ⟨_, rfl⟩
    have hj := hinv.2.2.2.1
    have hul := hinv.2.2.1
    have HI := Lib.hid hinv
    have HU := Lib.hid hau
    have HV := Lib.hid hav
    have HQ := Lib.hid haq
    have HB := Lib.hid hbel
    have HQL := Lib.hid hql
    clear hinv hau hav haq hbel
    by_cases h0 : j = 0
    · subst h0
      have hd := HI.out.done
      obtain ⟨dq, dr⟩ := hd
      rw [(dl_end hP1).1] at dq
      rw [(dl_end hP1).2] at dr
      have DQ := Lib.hid dq
      have DR := Lib.hid dr
      have HPP : a % b * P / P = a % b := Nat.mul_div_cancel _ hP1
      have HPP2 := Lib.hid HPP
      clear dq dr HPP
      go_wp2_with fail
      refine (trim_ar w2.heap.size m 113 qs _ _ (by exact HQ.out) HQL.out (by omega) HI.out.2.1 DQ.out).mono ?_
      rintro e w3 ⟨rfl, hs1, rfl⟩
      have HS1 := Lib.hid hs1
      clear hs1
      go_wp2_with fail
      refine (shr_n (some ⟨w.heap.size, 0, none⟩) (m + k + 1 + 1) (m + k + 1 + 1) _ _ us s P Q _ ?_ (by have := HQL.out; omega) HI.out.1 (by omega) hs HP.out hPQ DR.out HPP2.out).mono ?_
      · have := HU.out.sl (by have := HQL.out; omega)
        rw [show us.length = m + k + 1 + 1 from by have := HQL.out; omega] at this
        exact this
      rintro e w4 ⟨A4, c4, rfl, hs4, hb4⟩
      have HS4 := Lib.hid hs4
      have HB4 := Lib.hid hb4
      clear hs4 hb4
      go_wp2
      go_ret2
      exact ⟨_, _, A4, c4, rfl, HS1.out.below HB4.out, HS4.out, HB.out.trans (HB4.out.mono HB.out.size)⟩
    · obtain ⟨i, rfl⟩ : ∃ i, j = i + 1 := ⟨j - 1, by omega⟩
      obtain ⟨p1, p2, p3, p4, p5, p6, p7⟩ := HI.out.part HBP.out
      have hu := HU.out
      rw [p1] at hu
      have hstep := fun (zs : List Nat) (hzl : zs.length = k + 2 + 1) (hzb : ∀ z ∈ zs, z < 4294967296) => HI.out.step HBP.out HBP0.out hzl hzb
      have HSTEP := Lib.hid hstep
      clear hstep p1 p6 p7
      generalize us.take i = pre at *
      generalize (us.drop i).take (k + 2 + 1) = pt at *
      generalize us.drop (i + (k + 2 + 1)) = post at *
      have HP2 := Lib.hid p2
      have HP3 := Lib.hid p3
      have HP4 := Lib.hid p4
      have HP5 := Lib.hid p5
      have HUU := Lib.hid hu
      clear p2 p3 p4 p5 hu HU h0
      have el : i + (k + 2) + 1 - i = k + 3 := by omega
      go_wp2_with fail
      refine (guess_any w.heap.size w1.heap.size k i (m + k + 1 + 1 - i) (k + 2 + 1) pre pt post vv _ HP2.out HP3.out (by have := HVL.out; omega) (by omega) (by omega) (by omega) (by omega) (by omega) (by omega) HP4.out HVB.out HUU.out HV.out DV2.out (by rw [DV1.out]; exact HP5.out)).mono ?_
      rintro e w3 ⟨G, rfl, hGb, hG1, hG2, n1, rfl⟩
      rw [DV1.out] at hG1 hG2
      have HG1 := Lib.hid hG1
      have HG2 := Lib.hid hG2
      have HU3 := Lib.hid (HUU.out.drewN n1)
      have HV3 := Lib.hid (HV.out.drewN n1)
      have HQ3 := Lib.hid (HQ.out.drewN n1)
      have HB3 := Lib.hid (below_drawn HB.out n1)
      clear hG1 hG2 HUU HV HQ HB
      generalize wo.drewN n1 = w3 at *
      go_wp2_with fail
      refine (subm_any w.heap.size w1.heap.size (k + 2) i G (m + k + 1 + 1 - i) (k + 2 + 1) pre pt post vv _ HP2.out HP3.out (by have := HVL.out; omega) (by omega) (by omega) (by omega) (by omega) (by omega) (by omega) hGb HP4.out HVB.out HU3.out HV3.out (by omega)).mono ?_
      rintro e w4 ⟨zs, bb, rfl, hzb, hzl, hbb, hval, haz, honly, hbel⟩
      rw [DV1.out] at hval
      have HU4 := Lib.hid haz
      have HV4 := Lib.hid (honly.ar HV3.out (by omega))
      have HQ4 := Lib.hid (honly.ar HQ3.out (by omega))
      have HB4 := Lib.hid (HB3.out.trans hbel)
      have HZB := Lib.hid hzb
      have HZL := Lib.hid hzl
      clear haz honly hbel hzb hzl HU3 HV3 HQ3 HB3
      obtain ⟨z, EZ, hz⟩ := HQ4.out.cell' (j := i) (by have := HQL.out; omega)
      have hfz := HQ4.out.frozen i
      rcases (by omega : bb = 0 ∨ bb = 1) with h1 | h1
      · subst h1
        rw [Nat.mul_zero, Nat.add_zero] at hval
        have hN := HSTEP.out zs HZL.out HZB.out G (dl_right hval HG1.out HBP0.out) hval
        have HN := Lib.hid hN
        clear hN hval
        go_wp2
        go_roundw
        case rel => exact ⟨i, pre ++ zs ++ post, qs.set i G, ⟨HN.out, by simp; exact HQL.out, HU4.out.far (p := ⟨w2.heap.size, i, none⟩) (by simp; omega) _, HV4.out.far (p := ⟨w2.heap.size, i, none⟩) (by simp; omega) _, HQ4.out.set_ i G, HB4.out.setCell (p := ⟨w2.heap.size, i, none⟩) (by simp; omega) _⟩, by go_num⟩
        case measure => simp [intOf]
      · subst h1
        rw [Nat.mul_one] at hval
        obtain ⟨g1, g2, g3⟩ := dl_over hval (by have := val_lt 4294967296 zs HZB.out; rw [HZL.out] at this; exact this) HG1.out HG2.out HBP0.out
        have G2 := Lib.hid g2
        have G3 := Lib.hid g3
        have HVAL := Lib.hid hval
        clear g2 g3 hval
        go_wp2_with fail
        refine (addb_any w.heap.size w1.heap.size (k + 2) i (m + k + 1 + 1 - i) (k + 2 + 1) pre zs post vv _ HP2.out HZL.out (by have := HVL.out; omega) (by omega) (by omega) (by omega) (by omega) (by omega) (by omega) HZB.out HVB.out HU4.out HV4.out (by omega)).mono ?_
        rintro e w5 ⟨ys, kk, rfl, hyb, hyl, hyv, hay, honly, hbel⟩
        rw [DV1.out] at hyv
        have hyp : val 4294967296 ys < 4294967296 ^ (k + 2 + 1) := by have := val_lt 4294967296 ys hyb; rw [hyl] at this; exact this
        have hup : val 4294967296 pt < 4294967296 ^ (k + 2 + 1) := by have := val_lt 4294967296 pt HP4.out; rw [HP3.out] at this; exact this
        have hbv := back_val g1 HVAL.out hyv hyp G3.out (by omega)
        have hN := HSTEP.out ys hyl hyb (G - 1) G2.out hbv
        have HN := Lib.hid hN
        have HU5 := Lib.hid hay
        have HV5 := Lib.hid (honly.ar HV4.out (by omega))
        have HQ5 := Lib.hid (honly.ar HQ4.out (by omega))
        have HB5 := Lib.hid (HB4.out.trans hbel)
        obtain ⟨z, EZ, hz⟩ := HQ5.out.cell' (j := i) (by have := HQL.out; omega)
        have hfz := HQ5.out.frozen i
        clear hyb hyl hyv hay honly hbel hyp hup hbv hN HU4 HV4 HQ4 HB4
        go_wp2
        go_roundw
        case rel => exact ⟨i, pre ++ ys ++ post, qs.set i (G - 1), ⟨HN.out, by simp; exact HQL.out, HU5.out.far (p := ⟨w2.heap.size, i, none⟩) (by simp; omega) _, HV5.out.far (p := ⟨w2.heap.size, i, none⟩) (by simp; omega) _, HQ5.out.seti (by omega), HB5.out.setCell (p := ⟨w2.heap.size, i, none⟩) (by simp; omega) _⟩, by go_num⟩
        case measure => simp [intOf]
theorem Sl.of_eq {w : World} {k : IntKind} {A : Option Addr} {c : Nat} {xs ys : List Nat} (h : Sl w k A c xs) (e : xs = ys) : Sl w k A c ys := e ▸ h
set_option maxHeartbeats 1000000 in
theorem divw_any (X Y : Option Addr) (cx cy a b : Nat) (w : World) (hx : Sl w .u32 X cx (W a)) (hy : Sl w .u32 Y cy (W b)) (hb : b ≠ 0) (hlen : (W a).length ≤ 4294967280) :
    Calls Try.prog 105 #[.slice X (W a).length cx, .slice Y (W b).length cy] w fun e w' => QrOut a b w e w' := by
  have hcx := hx.le
  have hcxm := hx.max
  have hcy := hy.le
  have hcym := hy.max
  have HX := Lib.hid hx
  have HY := Lib.hid hy
  clear hx hy
  by_cases hlt : a < b
  · have hc : cmpI (a : Int) b = -1 := by unfold cmpI; rw [if_pos (by omega)]
    have e1 : a / b = 0 := Nat.div_eq_of_lt hlt
    have e2 : a % b = a := Nat.mod_eq_of_lt hlt
    have E1 := Lib.hid e1
    have E2 := Lib.hid e2
    clear e1 e2 hlt
    go_enter Try.func105, Try.ntmps105
    go_wp2_with fail
    refine (cmpw_any X Y cx cy a b _ HX.out HY.out).mono ?_
    rintro e w1 ⟨rfl, n1, rfl⟩
    rw [hc]
    clear hc
    go_wp2_with fail
    refine (clone_any X cx (W a) _ (HX.out.drewN n1) (by omega)).mono ?_
    rintro e w2 ⟨A2, c2, rfl, hs2, hb2⟩
    have HS2 := Lib.hid hs2
    have HB2 := Lib.hid ((below_drawn (Below.refl w.heap.size w) n1).trans hb2)
    clear hs2 hb2
    go_wp2
    go_ret2
    unfold QrOut
    rw [E1.out, E2.out]
    exact ⟨none, 0, A2, c2, rfl, Sl.nil_, HS2.out, HB2.out⟩
  · have hge : b ≤ a := by omega
    have hc : cmpI (a : Int) b = 0 ∨ cmpI (a : Int) b = 1 := by
      unfold cmpI; rw [if_neg (by omega)]; split
      · exact .inr rfl
      · exact .inl rfl
    have hwl := W_len_mono hge
    have hb1 : 1 ≤ (W b).length := by
      rcases Nat.eq_zero_or_pos (W b).length with h | h
      · exact absurd (W_nil.1 (List.eq_nil_of_length_eq_zero h)) hb
      · exact h
    by_cases hl : 1 < (W b).length
    · have HK : Hid ((W b).length = ((W b).length - 2) + 2) := Lib.hid (by omega)
      clear hlt
      rcases hc with hc | hc
      all_goals
        go_enter Try.func105, Try.ntmps105
        go_wp2_with fail
        refine (cmpw_any X Y cx cy a b _ HX.out HY.out).mono ?_
        rintro e w1 ⟨rfl, n1, rfl⟩
        rw [hc]
        clear hc
        go_wp2_with fail
        refine (divl_any X Y cx cy a b _ _ (HX.out.drewN n1) (HY.out.drewN n1) HK.out hwl hlen).mono ?_
        rintro e w2 ⟨A2, c2, A3, c3, rfl, hs2, hs3, hb2⟩
        have HS2 := Lib.hid hs2
        have HS3 := Lib.hid hs3
        have HB2 := Lib.hid ((below_drawn (Below.refl w.heap.size w) n1).trans hb2)
        clear hs2 hs3 hb2
        go_wp2
        go_ret2
        exact ⟨A2, c2, A3, c3, rfl, HS2.out, HS3.out, HB2.out⟩
    · obtain ⟨t, ht⟩ : ∃ t, W b = [t] := by
        match h : W b with
        | [] => rw [h] at hb1; simp at hb1
        | [t] => exact ⟨t, rfl⟩
        | _ :: _ :: _ => rw [h] at hl; simp at hl
      have htb : t < 4294967296 := W_lt b t (by rw [ht]; simp)
      have htv : t = b := by have := val_W b; rw [ht] at this; simpa [val] using this
      subst htv
      have hy2 := HY.out
      rw [ht] at hy2
      obtain ⟨p, o, y, rfl, EY, hcell, hpb⟩ := hy2.rd.at_ (j := 0) (by simp)
      have hyt : y = t := by have := EY.out; simpa using this.symm
      subst hyt
      have hll : (W y).length = 1 := by rw [ht]; rfl
      have HL := Lib.hid hll
      have HT := Lib.hid ht
      rw [hll] at hcy
      clear hlt ht hy2 hll EY hl hwl hb1
      rcases hc with hc | hc
      all_goals
        go_enter Try.func105, Try.ntmps105
        go_wp2_with fail
        refine (cmpw_any X _ cx cy a y _ HX.out HY.out).mono ?_
        rintro e w1 ⟨rfl, n1, rfl⟩
        rw [hc]
        clear hc
        have hcl : (w.drewN n1).cell? ⟨p, o, none⟩ = some (.int .u32 y) := hcell
        have HX1 := Lib.hid (HX.out.drewN n1)
        have HB1 := Lib.hid (below_drawn (Below.refl w.heap.size w) n1)
        clear hcell
        generalize w.drewN n1 = w1 at *
        have hl1 := HL.out
        go_wp2_with fail
        refine (dbw_any X cx (W a) y _ HX1.out (W_lt a) (by omega) (by omega) htb).mono ?_
        rw [val_W]
        rintro e w2 ⟨A2, c2, rfl, hs2, hb2⟩
        have HS2 := Lib.hid hs2
        have HB2 := Lib.hid (HB1.out.trans (hb2.mono HB1.out.size))
        clear hs2 hb2 hl1
        have hr : a % y < 4294967296 := Nat.lt_trans (Nat.mod_lt _ (by omega)) htb
        have hnew : Ar (w2.alloc (Obj.cells #[Value.int IntKind.u32 ((a % y : Nat) : Int)] 113)) w2.heap.size .u32 113 [a % y] := Ar.new w2 .u32 113 [a % y]
        have HNEW := Lib.hid hnew
        have HB3 := Lib.hid ((Below.refl w2.heap.size w2).alloc (Nat.le_refl _) (Obj.cells #[Value.int IntKind.u32 ((a % y : Nat) : Int)] 113))
        clear hnew
        go_wp2_with fail
        refine (trim_ar w2.heap.size 1 113 [a % y] (a % y) _ HNEW.out rfl (by omega) (by simpa using hr) (by simp [val])).mono ?_
        rintro e w3 ⟨rfl, hs3, rfl⟩
        have HS3 := Lib.hid hs3
        clear hs3
        go_wp2
        go_ret2
        exact ⟨A2, c2, _, _, rfl, HS2.out.below HB3.out, HS3.out, HB2.out.trans (HB3.out.mono HB2.out.size)⟩
end Go.Proofs.Ytcbdnnboddahkaa.Ws
