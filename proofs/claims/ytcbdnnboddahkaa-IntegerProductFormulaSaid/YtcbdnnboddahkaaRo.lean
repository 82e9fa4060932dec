/-
  WALKS: square roots of words, by Newton's steps.
-/
import Derived.Test.YtcbdnnboddahkaaDm
import Derived.Test.YtcbdnnboddahkaaRcmp
import Derived.Deep.LoopGhost
namespace Go.Proofs.Ytcbdnnboddahkaa.Ws
open Go.RowKit
set_option linter.unusedVariables false
set_option maxRecDepth 100000
/-- r is the integer part of the root of a -/
def SqR (a r : Nat) : Prop := r * r ≤ a ∧ a < (r + 1) * (r + 1)
theorem SqR.unique {a r s : Nat} (h : SqR a r) (k : SqR a s) : r = s := by
  rcases Nat.lt_trichotomy r s with hl | hl | hl
  · have := Nat.mul_le_mul (show r + 1 ≤ s from hl) (show r + 1 ≤ s from hl)
    have := h.2; have := k.1; omega
  · exact hl
  · have := Nat.mul_le_mul (show s + 1 ≤ r from hl) (show s + 1 ≤ r from hl)
    have := h.1; have := k.2; omega
theorem amgm (x y : Nat) : 4 * (x * y) ≤ (x + y) * (x + y) := by
  rcases Nat.le_total x y with h | h
  · obtain ⟨d, rfl⟩ := Nat.exists_eq_add_of_le h
    have e : (x + (x + d)) * (x + (x + d)) = 4 * (x * (x + d)) + d * d := by grind
    omega
  · obtain ⟨d, rfl⟩ := Nat.exists_eq_add_of_le h
    have e : (y + d + y) * (y + d + y) = 4 * ((y + d) * y) + d * d := by grind
    omega
theorem newton_ge {a r : Nat} (hr : 0 < r) : a < ((r + a / r) / 2 + 1) * ((r + a / r) / 2 + 1) := by
  have h1 : a < r * (a / r + 1) := Nat.lt_mul_div_succ a hr
  generalize a / r = q at *
  obtain ⟨n, hn⟩ : ∃ n, (r + q) / 2 = n := ⟨_, rfl⟩
  rw [hn]
  have h2 := amgm r (q + 1)
  have h3 : (r + (q + 1)) * (r + (q + 1)) ≤ (2 * (n + 1)) * (2 * (n + 1)) := Nat.mul_le_mul (by omega) (by omega)
  have h4 : (2 * (n + 1)) * (2 * (n + 1)) = 4 * ((n + 1) * (n + 1)) := by grind
  omega
theorem newton_stop {a r : Nat} (hr : 0 < r) (h : r ≤ (r + a / r) / 2) : r * r ≤ a := by
  have h1 : r ≤ a / r := by omega
  have := Nat.mul_le_mul_left r h1
  have := Nat.mul_div_le a r
  omega
theorem newton_pos {a n : Nat} (ha : a ≠ 0) (h : a < (n + 1) * (n + 1)) : 0 < n := by
  rcases Nat.eq_zero_or_pos n with h0 | h0
  · subst h0; simp at h; omega
  · exact h0
/-- the first root -/
theorem root_start {a n t s P : Nat} (hn : (W a).length = n + 1) (ht : (W a).getD n 0 = t) (hP : P = 2 ^ s) (h2 : (t + 1) * P ≤ 4294967296) (hs : s ≤ 31) : a < 2 ^ ((32 * (n + 1) - s + 1) / 2) * 2 ^ ((32 * (n + 1) - s + 1) / 2) := by
  obtain ⟨-, -, h3⟩ := top_word a n hn
  rw [ht] at h3
  have hP0 : 0 < P := by subst hP; exact Nat.pow_pos (by decide)
  have h4 : a * P < 4294967296 ^ n * 4294967296 := by
    have h5 : a * P < 4294967296 ^ n * (t + 1) * P := Nat.mul_lt_mul_of_pos_right h3 hP0
    have h6 : 4294967296 ^ n * ((t + 1) * P) ≤ 4294967296 ^ n * 4294967296 := Nat.mul_le_mul_left _ h2
    rw [← Nat.mul_assoc] at h6
    omega
  have h7 : a < 2 ^ (32 * (n + 1) - s) := by
    have e : 4294967296 ^ n * 4294967296 = 2 ^ (32 * (n + 1) - s) * P := by
      subst hP
      rw [← Nat.pow_succ, ← Nat.pow_add, show 4294967296 = 2 ^ 32 from by decide, ← Nat.pow_mul]
      congr 1; omega
    rw [e] at h4
    exact Nat.lt_of_mul_lt_mul_right h4
  rw [← Nat.pow_add]
  exact Nat.lt_of_lt_of_le h7 (Nat.pow_le_pow_right (by decide) (by omega))
theorem one_word (m r : Nat) (hr : r < 32) : (List.replicate (m + 1) 0).set m (2 ^ r) = W (2 ^ (32 * m + r)) := by
  have e : (List.replicate (m + 1) 0).set m (2 ^ r) = List.replicate m 0 ++ [2 ^ r] := by
    rw [List.replicate_succ', List.set_append_right _ _ (by simp)]
    simp
  have hlt : ∀ x ∈ List.replicate m 0 ++ [2 ^ r], x < 4294967296 := by
    intro x hx
    rcases List.mem_append.1 hx with h | h
    · have := List.eq_of_mem_replicate h; omega
    · simp at h
      have := Nat.pow_lt_pow_right (a := 2) (by decide) hr
      omega
  have hv : val 4294967296 (List.replicate m 0 ++ [2 ^ r]) = 2 ^ (32 * m + r) := by
    rw [val_snoc, val_replicate, Nat.zero_add, List.length_replicate, show 4294967296 = 2 ^ 32 from by decide, ← Nat.pow_mul, ← Nat.pow_add]
  rw [e, ← hv, ← trim_W hlt, trimL_snoc _ _ (by have := Nat.pow_pos (n := r) (show 0 < 2 by decide); omega)]
theorem W_len_add (a b : Nat) : (W (a + b)).length ≤ (W a).length + (W b).length + 1 := by
  refine W_len_lt ?_
  have h1 := W_pow a
  have h2 := W_pow b
  have h3 : 4294967296 ^ (W a).length ≤ 4294967296 ^ ((W a).length + (W b).length) := Nat.pow_le_pow_right (by decide) (by omega)
  have h4 : 4294967296 ^ (W b).length ≤ 4294967296 ^ ((W a).length + (W b).length) := Nat.pow_le_pow_right (by decide) (by omega)
  rw [Nat.pow_succ]
  omega
theorem divw_n (X Y : Option Addr) (cx cy a b n : Nat) (w : World) (hx : Sl w .u32 X cx (W a)) (hy : Sl w .u32 Y cy (W b)) (hb : b ≠ 0) (hn : (W a).length = n) (hlen : n ≤ 4294967280) :
    Calls Try.prog 105 #[.slice X n cx, .slice Y (W b).length cy] w fun e w' => QrOut a b w e w' := by
  subst hn; exact divw_any X Y cx cy a b w hx hy hb hlen
def RootOut (a : Nat) (w : World) (e : Ending) (w' : World) : Prop := ∃ r A c, SqR a r ∧ e = .returned (.slice A (W r).length c) ∧ Sl w' .u32 A c (W r) ∧ Below w.heap.size w w'
set_option maxHeartbeats 4000000 in
theorem rootw_any (X : Option Addr) (cx a : Nat) (w : World) (hx : Sl w .u32 X cx (W a)) (ha : a ≠ 0) (hlen : (W a).length ≤ 1000000) :
    Calls Try.prog 111 #[.slice X (W a).length cx] w fun e w' => RootOut a w e w' := by
  obtain ⟨n, hn⟩ : ∃ n, (W a).length = n + 1 := by
    rcases Nat.eq_zero_or_pos (W a).length with h | h
    · exact absurd (W_nil.1 (List.eq_nil_of_length_eq_zero h)) ha
    · exact ⟨(W a).length - 1, by omega⟩
  obtain ⟨t0, -, -⟩ := top_word a n hn
  obtain ⟨tb, to, t, rfl, ET, htc, htl⟩ := hx.rd.at_ (j := n) (by omega)
  have htb : t < 4294967296 := by rw [← ET.out]; exact getD_lt (W_lt a) (by decide) _
  rw [ET.out] at t0
  obtain ⟨s, P, Q, hs, hP, hPQ, hf1, hf2, hlz⟩ := lz_facts t t0 htb
  have HST := Lib.hid (root_start hn ET.out hP hf2 hs)
  obtain ⟨h, hh⟩ : ∃ h : Nat, h = (32 * (n + 1) - s + 1) / 2 := ⟨_, rfl⟩
  rw [← hh] at HST
  obtain ⟨m, hm⟩ : ∃ m : Nat, m = h / 32 := ⟨_, rfl⟩
  obtain ⟨r, hr⟩ : ∃ r : Nat, r = h % 32 := ⟨_, rfl⟩
  have hr32 : r < 32 := by omega
  have hmn : m ≤ 1000001 := by omega
  have hhm : h = 32 * m + r := by omega
  have hcx := hx.le
  have hcxm := hx.max
  have HX := Lib.hid hx
  have HLZ := Lib.hid hlz
  have HN := Lib.hid hn
  have HW1 := Lib.hid (one_word m r hr32)
  have HHM := Lib.hid hhm
  have hmk := makeW (m + 1) (by omega) ((m : Int) + 1) (by omega)
  have eh : (32 * ((n : Int) + 1) - s + 1) / 2 = (h : Int) := by omega
  have em : (h : Int) / 32 = (m : Int) := by omega
  have er : (h : Int) % 32 = (r : Int) := by omega
  have hpb : (2 : Nat) ^ r ≤ 2147483648 := by have := Nat.pow_le_pow_right (n := 2) (by decide) (show r ≤ 31 by omega); omega
  obtain ⟨p2, hp2⟩ : ∃ p2 : Nat, p2 = 2 ^ r := ⟨_, rfl⟩
  have ep : (2 : Int) ^ r = (p2 : Int) := by rw [hp2]; simp
  rw [← hp2] at hpb
  have HP2 := Lib.hid hp2
  rw [hn] at hcx hlen ⊢
  clear hx hP hPQ hf1 hf2 hlz hh hm hr hhm hn hp2
  go_enter Try.func111, Try.ntmps111
  go_wp2_with fail
  refine (lz_any t s _ htb HLZ.out).mono ?_
  rintro e w' ⟨rfl, rfl⟩
  have hnew := Ar.new' w .u32 113 (List.replicate (m + 1) 0)
  obtain ⟨z, EZ, hz⟩ := hnew.cell' (j := m) (by simp)
  have hfz := hnew.frozen m
  have ha1 := hnew.seti (i := m) (y := p2) (v := (p2 : Int)) rfl
  rw [HP2.out, HW1.out, ← HHM.out] at ha1
  have hwl : (W (2 ^ h)).length = m + 1 := by rw [HHM.out, ← HW1.out]; simp
  have HWL := Lib.hid hwl
  have HA1 := Lib.hid (ha1.sl (by omega))
  have HB1 := Lib.hid (((Below.refl w.heap.size w).alloc (Nat.le_refl _) (newAr .u32 113 (List.replicate (m + 1) 0))).setCell (p := ⟨w.heap.size, m, none⟩) (Nat.le_refl _) (.int .u32 ((2 ^ r : Nat) : Int)))
  have hha : Hid (0 < 2 ^ h ∧ a < (2 ^ h + 1) * (2 ^ h + 1)) := Lib.hid ⟨Nat.pow_pos (by decide), Nat.lt_of_lt_of_le HST.out (Nat.mul_le_mul (by omega) (by omega))⟩
  clear hnew ha1 hwl HW1
  go_wp2
  go_loopg [5, 6, 7, 8] (2 ^ h) (fun k t5 _ _ _ wr => ∃ (R : Option Addr) (cr : Nat), ((0 < k ∧ a < (k + 1) * (k + 1)) ∧ (W k).length ≤ 1000002 ∧ Sl wr .u32 R cr (W k) ∧ Below w.heap.size w wr) ∧ t5 = .slice R (W k).length cr)
  case atStart =>
    refine ⟨some ⟨w.heap.size, 0, none⟩, m + 1, ⟨hha.out, by rw [HWL.out]; omega, ?_, ?_⟩, ?_⟩
    · have := HA1.out; rw [HWL.out, ← HP2.out] at this; exact this
    · have := HB1.out; rw [← HP2.out] at this; exact this
    · rw [HWL.out]
  case round =>
    obtain ⟨R, cr, ⟨⟨hk0, hka⟩, hkl, hsr, hbel⟩, rfl⟩ := hrel
    have HSR := Lib.hid hsr
    have HB := Lib.hid hbel
    have hcr := hsr.le
    have hcrm := hsr.max
    have HXr := Lib.hid (HX.out.below hbel)
    have HKA := Lib.hid hka
    have hnw := Lib.hid (newton_ge (a := a) hk0)
    clear hsr hbel hka EZ hz hfz ep HA1 HB1 hha HWL eh em er
    go_wp2_with fail
    refine (divw_n (some ⟨tb, to, none⟩) R cx cr a gk (n + 1) _ HXr.out HSR.out (by omega) HN.out (by omega)).mono ?_
    rintro e w2 ⟨A2, c2, A3, c3, rfl, hs2, -, hb2⟩
    have HS2 := Lib.hid hs2
    have HSR2 := Lib.hid (HSR.out.below hb2)
    have HB2 := Lib.hid (HB.out.trans (hb2.mono HB.out.size))
    have hql : (W (a / gk)).length ≤ n + 1 := by rw [← HN.out]; exact W_len_mono (Nat.div_le_self a gk)
    clear hs2 hb2
    go_wp2_with fail
    refine (addW HSR2.out HS2.out (by omega) (by omega)).mono ?_
    rintro e w3 ⟨A4, c4, rfl, hs4, hb4⟩
    have HS4 := Lib.hid hs4
    have HSR3 := Lib.hid (HSR2.out.below hb4)
    have HB3 := Lib.hid (HB2.out.trans (hb4.mono HB2.out.size))
    have hl4 : (W (gk + a / gk)).length ≤ 2000003 := Nat.le_trans (W_len_add _ _) (by omega)
    clear hs4 hb4 HS2 HSR2 HB2
    go_wp2_with fail
    refine (shr_n A4 c4 (W (gk + a / gk)).length (gk + a / gk) ((gk + a / gk) / 2) (W (gk + a / gk)) 1 2 2147483648 _ HS4.out rfl (W_lt _) (by omega) (by omega) rfl rfl (val_W _) rfl).mono ?_
    rintro e w4 ⟨A5, c5, rfl, hs5, hb5⟩
    have HS5 := Lib.hid hs5
    have HSR4 := Lib.hid (HSR3.out.below hb5)
    have HB4 := Lib.hid (HB3.out.trans (hb5.mono HB3.out.size))
    clear hs5 hb5 HS4 HSR3 HB3
    go_wp2_with fail
    refine (cmpw_any A5 R c5 cr ((gk + a / gk) / 2) gk _ HS5.out HSR4.out).mono ?_
    rintro e w5 ⟨rfl, n5, rfl⟩
    have HS6 := Lib.hid (HS5.out.drewN n5)
    have HSR5 := Lib.hid (HSR4.out.drewN n5)
    have HB5 := Lib.hid (below_drawn HB4.out n5)
    clear HS5 HSR4 HB4
    by_cases hst : gk ≤ (gk + a / gk) / 2
    · have hc : decide (0 ≤ cmpI (((gk + a / gk) / 2 : Nat) : Int) (gk : Int)) = true := by
        rw [decide_eq_true_iff]; unfold cmpI; rw [if_neg (by omega)]; split <;> omega
      have hcb := cmpI_cases (((gk + a / gk) / 2 : Nat) : Int) (gk : Int)
      have HF : Hid (SqR a gk) := Lib.hid ⟨newton_stop hk0 hst, HKA.out⟩
      clear hst
      generalize cmpI (((gk + a / gk) / 2 : Nat) : Int) (gk : Int) = cq at *
      go_wp2
      go_ret
      exact ⟨gk, R, cr, HF.out, rfl, HSR5.out, HB5.out⟩
    · have hc : decide (0 ≤ cmpI (((gk + a / gk) / 2 : Nat) : Int) (gk : Int)) = false := by
        rw [decide_eq_false_iff_not]; unfold cmpI; rw [if_pos (by omega)]; omega
      have hcb := cmpI_cases (((gk + a / gk) / 2 : Nat) : Int) (gk : Int)
      generalize hcq : cmpI (((gk + a / gk) / 2 : Nat) : Int) (gk : Int) = cq at *
      clear hcq
      go_wp2
      go_roundg ((gk + a / gk) / 2)
      case rel => exact ⟨A5, c5, ⟨⟨newton_pos ha hnw.out, hnw.out⟩, Nat.le_trans (W_len_mono (by omega)) hkl, HS6.out, HB5.out⟩, rfl⟩
      case measure => omega
/-- what Root hands back -/
def RtOut (z : Int) (w : World) (e : Ending) (w' : World) : Prop := ∃ (r : Nat) (A : Option Addr) (c : Nat), (0 ≤ z → SqR z.natAbs r) ∧ (z < 0 → r = 0) ∧ e = .returned (.tuple #[.agg #[.bool false, .slice A (W r).length c], .int .i64 (if z < 0 then 2 else 0)]) ∧ IntIs w' (r : Int) (.agg #[.bool false, .slice A (W r).length c]) ∧ Below w.heap.size w w'
theorem IntIs.nat {w : World} {r : Nat} {A : Option Addr} {c : Nat} (h : Sl w .u32 A c (W r)) : IntIs w (r : Int) (.agg #[.bool false, .slice A (W r).length c]) :=
  ⟨A, c, by rw [show decide ((r : Int) < 0) = false from decide_eq_false (by omega), Int.natAbs_natCast], by rw [Int.natAbs_natCast]; exact h⟩
theorem SqR.zero : SqR 0 0 := ⟨by omega, by omega⟩
theorem RtOut.stored {w0 w : World} {g : Nat} {b : Bool} {A A' : Option Addr} {n c c' : Nat} {z : Int} {r : Nat} (h : Cl w g b A n c) (hr : 0 ≤ z → SqR z.natAbs r) (hz : z < 0 → r = 0) (hs : Sl w .u32 A' c' (W r)) (hb : Below w0.heap.size w0 w) (hg : w0.heap.size ≤ g) {q : Int} (hq : q = if z < 0 then 2 else 0) :
    RtOut z w0 (.returned (.tuple #[.agg #[.bool false, .slice A' (W r).length c'], .int .i64 q])) ((w.setCell ⟨g, 0, none⟩ (.bool false)).setCell ⟨g, 1, none⟩ (.slice A' (W r).length c')) := by
  subst hq
  obtain ⟨v, e, hi, hb'⟩ := Cl.stored h (IntIs.nat hs) hb hg
  injection e with e
  subst e
  exact ⟨r, A', c', hr, hz, rfl, hi, hb'⟩
set_option maxHeartbeats 4000000 in
theorem Root_any (nx : Bool) (X : Option Addr) (c : Nat) (xs : List Nat) (w : World) (hx : IntIn w nx X c xs) :
    Calls Try.prog 44 #[.agg #[.bool nx, .slice X xs.length c]] w fun e w' => RtOut (iv nx xs) w e w' := by
  have hB : Below w.heap.size w ((w.alloc (Obj.cells #[Value.bool nx, Value.slice X xs.length c] 24)).alloc (Obj.cells #[Value.bool false, Value.slice none 0 0] 24)) := by go_grown
  have hC : Cl ((w.alloc (Obj.cells #[Value.bool nx, Value.slice X xs.length c] 24)).alloc (Obj.cells #[Value.bool false, Value.slice none 0 0] 24)) w.heap.size nx X xs.length c :=
    ⟨by simp [go_sem], by simp [go_sem], by simp [go_sem], by simp [go_sem]⟩
  have hR : Cl ((w.alloc (Obj.cells #[Value.bool nx, Value.slice X xs.length c] 24)).alloc (Obj.cells #[Value.bool false, Value.slice none 0 0] 24)) (w.heap.size + 1) false none 0 0 :=
    ⟨by simp [go_sem], by simp [go_sem], by simp [go_sem], by simp [go_sem]⟩
  have hz : ((w.alloc (Obj.cells #[Value.bool nx, Value.slice X xs.length c] 24)).alloc (Obj.cells #[Value.bool false, Value.slice none 0 0] 24)).heap.size = w.heap.size + 2 := by simp
  have hl1 : (W (iv nx xs).natAbs).length ≤ 1000000 := by rw [← trimL_W nx hx.lt]; have := trimL_length xs; have := hx.len; omega
  have HX := Lib.hid hx
  have HB := Lib.hid hB
  have HC := Lib.hid hC
  have HR := Lib.hid hR
  have HZ := Lib.hid hz
  clear hx hB hC hR hz
  have hcase : iv nx xs < 0 ∨ iv nx xs = 0 ∨ 0 < iv nx xs := by omega
  rcases hcase with hs | hs | hs
  · have hsg : (iv nx xs).sign = -1 := by rw [Int.sign_eq_neg_one_iff_neg]; exact hs
    have HS := Lib.hid hs
    have HSG := Lib.hid hsg
    clear hs hsg
    go_enter Try.func44, Try.ntmps44
    go_wp2_with fail
    generalize ((w.alloc (Obj.cells #[Value.bool nx, Value.slice X xs.length c] 24)).alloc (Obj.cells #[Value.bool false, Value.slice none 0 0] 24)) = W0 at *
    obtain ⟨x0, x1, -, -⟩ := HC.out
    go_wp2_with fail
    refine (sign_any nx X c xs _ (HX.out.below HB.out).sl HX.out.lt).mono ?_
    rw [HSG.out]
    rintro e w1 ⟨rfl, hb1⟩
    have HR1 := Lib.hid (HR.out.below hb1 (by have := HZ.out; omega))
    have HB1 := Lib.hid (HB.out.trans (hb1.mono HB.out.size))
    obtain ⟨r0, r1, r2, r3⟩ := HR1.out
    clear hb1 x0 x1
    go_wp2
    refine bodyPost_ret (v := .tuple #[.agg #[.bool false, .slice none 0 0], .int .i64 2]) (by simp [results, Try.results44, go_sem, r0, r1]) rfl ?_
    exact RtOut.stored (r := 0) HR1.out (fun h => absurd HS.out (by omega)) (fun _ => rfl) Sl.nil_ HB1.out (by omega) (by rw [if_pos HS.out])
  · have hsg : (iv nx xs).sign = 0 := by rw [hs]; rfl
    have HS := Lib.hid hs
    have HSG := Lib.hid hsg
    clear hs hsg
    go_enter Try.func44, Try.ntmps44
    go_wp2_with fail
    generalize ((w.alloc (Obj.cells #[Value.bool nx, Value.slice X xs.length c] 24)).alloc (Obj.cells #[Value.bool false, Value.slice none 0 0] 24)) = W0 at *
    obtain ⟨x0, x1, -, -⟩ := HC.out
    go_wp2_with fail
    refine (sign_any nx X c xs _ (HX.out.below HB.out).sl HX.out.lt).mono ?_
    rw [HSG.out]
    rintro e w1 ⟨rfl, hb1⟩
    have HR1 := Lib.hid (HR.out.below hb1 (by have := HZ.out; omega))
    have HB1 := Lib.hid (HB.out.trans (hb1.mono HB.out.size))
    obtain ⟨r0, r1, r2, r3⟩ := HR1.out
    clear hb1 x0 x1
    go_wp2
    refine bodyPost_ret (v := .tuple #[.agg #[.bool false, .slice none 0 0], .int .i64 0]) (by simp [results, Try.results44, go_sem, r0, r1]) rfl ?_
    exact RtOut.stored (r := 0) HR1.out (fun h => by rw [HS.out]; exact SqR.zero) (fun _ => rfl) Sl.nil_ HB1.out (by omega) (by rw [if_neg (by rw [HS.out]; omega)])
  · have hsg : (iv nx xs).sign = 1 := by rw [Int.sign_eq_one_iff_pos]; exact hs
    have hne : (iv nx xs).natAbs ≠ 0 := by omega
    have HS := Lib.hid hs
    have HSG := Lib.hid hsg
    clear hs hsg
    go_enter Try.func44, Try.ntmps44
    go_wp2_with fail
    generalize ((w.alloc (Obj.cells #[Value.bool nx, Value.slice X xs.length c] 24)).alloc (Obj.cells #[Value.bool false, Value.slice none 0 0] 24)) = W0 at *
    obtain ⟨x0, x1, -, -⟩ := HC.out
    go_wp2_with fail
    refine (sign_any nx X c xs _ (HX.out.below HB.out).sl HX.out.lt).mono ?_
    rw [HSG.out]
    rintro e w1 ⟨rfl, hb1⟩
    have HR1 := Lib.hid (HR.out.below hb1 (by have := HZ.out; omega))
    have HC1 := Lib.hid (HC.out.below hb1 (by have := HZ.out; omega))
    have HB1 := Lib.hid (HB.out.trans (hb1.mono HB.out.size))
    have HZ1 : Hid (w.heap.size + 2 ≤ w1.heap.size) := Lib.hid (by have := HZ.out; have := hb1.size; omega)
    clear hb1 x0 x1
    obtain ⟨x0, x1, -, -⟩ := HC1.out
    go_wp2_with fail
    refine (trim_in (w0 := w) HX.out HB1.out).mono ?_
    rintro e w2 ⟨rfl, hs2, rfl⟩
    have HS2 := Lib.hid hs2
    clear hs2
    go_wp2_with fail
    refine (rootw_any X c _ _ HS2.out hne hl1).mono ?_
    rintro e w3 ⟨r, A3, c3, hrt, rfl, hs3, hb3⟩
    have HRT := Lib.hid hrt
    have HS3 := Lib.hid hs3
    have HR3 := Lib.hid (HR1.out.below hb3 (by have := HZ1.out; omega))
    have HB3 := Lib.hid (HB1.out.trans (hb3.mono HB1.out.size))
    have HZ3 : Hid (w.heap.size + 2 ≤ w3.heap.size) := Lib.hid (by have := HZ1.out; have := hb3.size; omega)
    clear hrt hs3 hb3 x0 x1
    go_wp2_with fail
    refine (signed_any false A3 c3 (W r) _ HS3.out (W_lt _)).mono ?_
    rw [iv_W]
    rintro e w4 ⟨v, rfl, hi4, hb4⟩
    have HR4 := Lib.hid (HR3.out.below hb4 (by have := HZ3.out; omega))
    have HB4 := Lib.hid (HB3.out.trans (hb4.mono HB3.out.size))
    obtain ⟨A4, c4, hv, hs4⟩ := hi4
    rw [if_neg (by simp)] at hv hs4
    rw [show decide ((r : Int) < 0) = false from decide_eq_false (by omega), Int.natAbs_natCast] at hv
    rw [Int.natAbs_natCast] at hs4
    subst hv
    have HS4 := Lib.hid hs4
    obtain ⟨r0, r1, r2, r3⟩ := HR4.out
    clear hs4 hb4
    go_wp2
    refine bodyPost_ret (v := .tuple #[.agg #[.bool false, .slice A4 (W r).length c4], .int .i64 0]) (by simp [results, Try.results44, go_sem, r0, r1]) rfl ?_
    exact RtOut.stored (r := r) HR4.out (fun _ => HRT.out) (fun h => absurd HS.out (by omega)) HS4.out HB4.out (by omega) (by rw [if_neg (by have := HS.out; omega)])
end Go.Proofs.Ytcbdnnboddahkaa.Ws
