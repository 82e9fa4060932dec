/-
  WALKS of the reference: the square root, bit by bit.
-/
import Derived.Test.YtcbdnnboddahkaaRo
import Derived.Test.YtcbdnnboddahkaaGc
namespace Go.Proofs.Ytcbdnnboddahkaa.Ws
open Go.RowKit
set_option linter.unusedVariables false
set_option maxRecDepth 100000
/-- r is the root as far as the places above P are known -/
def RB (a r P : Nat) : Prop := r * r ≤ a ∧ a < (r + P) * (r + P)
theorem RB.one {a r : Nat} (h : RB a r 1) : SqR a r := h
theorem RB.take_ {a r Q : Nat} (h : RB a r (2 * Q)) (hl : (r + Q) * (r + Q) ≤ a) : RB a (r + Q) Q := ⟨hl, by have := h.2; rw [show r + Q + Q = r + 2 * Q from by omega]; exact this⟩
theorem RB.leave {a r Q : Nat} (h : RB a r (2 * Q)) (hl : ¬ (r + Q) * (r + Q) ≤ a) : RB a r Q := ⟨h.1, by omega⟩
theorem RB.le {a r P : Nat} (h : RB a r P) : r ≤ a := by
  have := h.1
  rcases Nat.eq_zero_or_pos r with h0 | h0
  · omega
  · have := Nat.le_mul_of_pos_right r h0; omega
theorem RB.start {a n k : Nat} (h : a < 65536 ^ n) (hk : n ≤ 2 * k) : RB a 0 (65536 ^ k) := by
  refine ⟨by omega, ?_⟩
  rw [Nat.zero_add, ← Nat.pow_add]
  exact Nat.lt_of_lt_of_le h (Nat.pow_le_pow_right (by decide) (by omega))
theorem D_len_lt {n k : Nat} (h : n < 65536 ^ k) : (D n).length ≤ k := dgs_length_le _ (by decide) _ _ h
theorem D_pow (n : Nat) : n < 65536 ^ (D n).length := dgs_length_lt _ (by decide) n
theorem D_len_next {r i q m : Nat} (hr : (D r).length ≤ m) (hi : i + 1 ≤ m) (hq : q < 65536) : (D (r + 65536 ^ i * q)).length ≤ m + 1 := by
  refine D_len_lt ?_
  have h1 := D_pow r
  have h2 : 65536 ^ (D r).length ≤ 65536 ^ m := Nat.pow_le_pow_right (by decide) hr
  have h3 : 65536 ^ (i + 1) ≤ 65536 ^ m := Nat.pow_le_pow_right (by decide) hi
  have h4 : 65536 ^ i * q ≤ 65536 ^ i * 65536 := Nat.mul_le_mul_left _ (by omega)
  rw [Nat.pow_succ] at h3 ⊢
  omega
theorem pow2_half (k : Nat) : 2 ^ (k + 1) / 2 = 2 ^ k := by rw [Nat.pow_succ]; omega
theorem Ar.own {w : World} {g base : Nat} {k : IntKind} {T : TypeId} {zs : List Nat} {n : Nat} (h : Ar w g k T zs) (hb : base ≤ g) (hn : zs.length = n) (hm : n ≤ 4294967296) : w.ownsRow base T 1 (.slice (some ⟨g, 0, none⟩) n n) n (vals k zs) := by
  subst hn
  exact ⟨by rw [vals_length]; omega, .inr ⟨g, zs.length, _, rfl, hb, h, Nat.le_refl _, by unfold maxLen; omega, by simp, by rw [Nat.mul_one, List.take_of_length_le (by simp)]; simp [vals]⟩⟩
theorem sign_bd (z : Int) : -1 ≤ z.sign ∧ z.sign ≤ 1 := by
  rcases (by omega : z < 0 ∨ z = 0 ∨ 0 < z) with h | h | h
  · rw [Int.sign_eq_neg_one_iff_neg.2 h]; omega
  · rw [h]; decide
  · rw [Int.sign_eq_one_iff_pos.2 h]; omega
theorem World.ownsRow_alloc' {w : World} {base size n : Nat} {e : TypeId} {v : Value} {xs : List Value} (h : w.ownsRow base e size v n xs) (o : Obj) : (w.alloc o).ownsRow base e size v n xs := h.alloc o
theorem rplus_val {X Y : Option Addr} {c d r p n : Nat} {ys : List Nat} {w : World} (hx : Sl w .i64 X c (D r)) (hy : Sl w .i64 Y d ys) (bz : ∀ x ∈ ys, x < 65536) (hv : val 65536 ys = p) (hn : ys.length = n) (h1 : (D r).length ≤ 4000000) (h2 : n ≤ 4000000) :
    Calls Try.prog 99 #[.slice X (D r).length c, .slice Y n d] w fun e w' => SlOut w .i64 (D (r + p)) e w' := by
  subst hn
  have h := rplus_list X Y c d (D r) ys w hx hy (D_lt _) bz h1 h2
  rw [val_D, hv] at h; exact h
set_option maxHeartbeats 1000000 in
theorem rRoot_any (nx : Bool) (X : Option Addr) (c : Nat) (xs : List Nat) (w : World) (hx : IntIn w nx X c xs) :
    Calls Try.prog 45 #[.agg #[.bool nx, .slice X xs.length c]] w fun e w' => RtOut (iv nx xs) w e w' := by
  obtain ⟨i0, hi, hz0, hz1, hz2⟩ := info_parts infoI
  have hB : Below w.heap.size w ((w.alloc (Obj.cells #[Value.bool nx, Value.slice X xs.length c] 24)).alloc (Obj.cells #[Value.bool false, Value.slice none 0 0] 24)) := by go_grown
  have hC : Cl ((w.alloc (Obj.cells #[Value.bool nx, Value.slice X xs.length c] 24)).alloc (Obj.cells #[Value.bool false, Value.slice none 0 0] 24)) w.heap.size nx X xs.length c :=
    ⟨by simp [go_sem], by simp [go_sem], by simp [go_sem], by simp [go_sem]⟩
  have hR : Cl ((w.alloc (Obj.cells #[Value.bool nx, Value.slice X xs.length c] 24)).alloc (Obj.cells #[Value.bool false, Value.slice none 0 0] 24)) (w.heap.size + 1) false none 0 0 :=
    ⟨by simp [go_sem], by simp [go_sem], by simp [go_sem], by simp [go_sem]⟩
  have hz : ((w.alloc (Obj.cells #[Value.bool nx, Value.slice X xs.length c] 24)).alloc (Obj.cells #[Value.bool false, Value.slice none 0 0] 24)).heap.size = w.heap.size + 2 := by simp
  have hdl := hx.dlen
  have HX := Lib.hid hx
  have HB := Lib.hid hB
  have HC := Lib.hid hC
  have HR := Lib.hid hR
  have HZ := Lib.hid hz
  clear hx hB hC hR hz
  by_cases hs : iv nx xs < 0
  · have hsg : (iv nx xs).sign = -1 := by rw [Int.sign_eq_neg_one_iff_neg]; exact hs
    have HS := Lib.hid hs
    have HSG := Lib.hid hsg
    clear hs hsg
    go_enter Try.func45, Try.ntmps45
    go_wp2_with fail
    generalize ((w.alloc (Obj.cells #[Value.bool nx, Value.slice X xs.length c] 24)).alloc (Obj.cells #[Value.bool false, Value.slice none 0 0] 24)) = W0 at *
    obtain ⟨x0, x1, -, -⟩ := HC.out
    go_wp2_with fail
    refine (rSign_any nx X c xs _ (HX.out.below HB.out)).mono ?_
    rw [HSG.out]
    rintro e w1 ⟨rfl, hb1⟩
    have HR1 := Lib.hid (HR.out.below hb1 (by have := HZ.out; omega))
    have HB1 := Lib.hid (HB.out.trans (hb1.mono HB.out.size))
    obtain ⟨r0, r1, r2, r3⟩ := HR1.out
    clear hb1 x0 x1
    go_wp2
    refine bodyPost_ret (v := .tuple #[.agg #[.bool false, .slice none 0 0], .int .i64 2]) (by simp [results, Try.results45, go_sem, r0, r1]) rfl ?_
    exact RtOut.stored (r := 0) HR1.out (fun h => absurd HS.out (by omega)) (fun _ => rfl) Sl.nil_ HB1.out (by omega) (by rw [if_pos HS.out])
  · have hsg : decide ((iv nx xs).sign < 0) = false := by
      rw [decide_eq_false_iff_not]
      have : 0 ≤ (iv nx xs).sign := Int.sign_nonneg_iff.2 (by omega)
      omega
    have hsg2 := sign_bd (iv nx xs)
    have HS := Lib.hid hs
    clear hs
    go_enter Try.func45, Try.ntmps45
    go_wp2_with fail
    generalize ((w.alloc (Obj.cells #[Value.bool nx, Value.slice X xs.length c] 24)).alloc (Obj.cells #[Value.bool false, Value.slice none 0 0] 24)) = W0 at *
    obtain ⟨x0, x1, -, -⟩ := HC.out
    go_wp2_with fail
    refine (rSign_any nx X c xs _ (HX.out.below HB.out)).mono ?_
    generalize hsv : (iv nx xs).sign = sv at *
    clear hsv
    rintro e w1 ⟨rfl, hb1⟩
    have HR1 := Lib.hid (HR.out.below hb1 (by have := HZ.out; omega))
    have HC1 := Lib.hid (HC.out.below hb1 (by have := HZ.out; omega))
    have HB1 := Lib.hid (HB.out.trans (hb1.mono HB.out.size))
    have HZ1 : Hid (w.heap.size + 2 ≤ w1.heap.size) := Lib.hid (by have := HZ.out; have := hb1.size; omega)
    clear hb1 x0 x1
    obtain ⟨x0, x1, -, -⟩ := HC1.out
    go_wp2_with fail
    refine (rdigits_any nx X c xs _ (HX.out.below HB1.out)).mono ?_
    obtain ⟨a, ha⟩ : ∃ a, (iv nx xs).natAbs = a := ⟨_, rfl⟩
    rw [ha] at hdl ⊢
    have HA := Lib.hid ha
    rintro e w2 ⟨A, cA, rfl, hsa, hb2⟩
    have HSA := Lib.hid hsa
    have hca := hsa.le
    have hcam := hsa.max
    have HR2 := Lib.hid (HR1.out.below hb2 (by have := HZ1.out; omega))
    have HB2 := Lib.hid (HB1.out.trans (hb2.mono HB1.out.size))
    have HZ2 : Hid (w.heap.size + 2 ≤ w2.heap.size) := Lib.hid (by have := HZ1.out; have := hb2.size; omega)
    have hrb0 : RB a 0 (65536 ^ ((D a).length / 2 + 2)) := RB.start (D_pow a) (by omega)
    have HRB0 := Lib.hid hrb0
    clear ha hsa hb2 x0 x1 hrb0 HC HC1 HX
    go_wp2
    go_loopg [5, 6, 7, 8] ((D a).length / 2 + 2) (fun k t5 t6 _ _ wr => ∃ (r : Nat) (R : Option Addr) (cr : Nat), (RB a r (65536 ^ k) ∧ k ≤ (D a).length / 2 + 2 ∧ (D r).length ≤ (D a).length + 3 ∧ Sl wr .i64 R cr (D r) ∧ Below w2.heap.size w2 wr) ∧ t5 = .slice R (D r).length cr ∧ t6 = .int .i64 ((k : Int) - 1))
    case atStart => exact ⟨0, none, 0, ⟨HRB0.out, Nat.le_refl _, Nat.zero_le _, Sl.nil_, Below.refl _ _⟩, rfl, by go_num⟩
    case round =>
      obtain ⟨r, R, cr, ⟨hrb, hk, hrl, hsr, hbel⟩, rfl, rfl⟩ := hrel
      have hcr := hsr.le
      have hcrm := hsr.max
      have HRB := Lib.hid hrb
      have HSR := Lib.hid hsr
      have HBR := Lib.hid hbel
      clear hrb hsr hbel
      by_cases h0 : gk = 0
      · subst h0
        have hq : SqR a r := HRB.out.one
        have HQ := Lib.hid hq
        clear hq
        go_wp2_with fail
        refine (madeD (neg := false) (n := r) HSR.out (by omega)).mono ?_
        rintro e w4 ⟨v, rfl, hi4, hb4⟩
        have HR4 := Lib.hid ((HR2.out.below HBR.out (by have := HZ2.out; omega)).below hb4 (by have := HZ2.out; have := HBR.out.size; omega))
        have HB4 := Lib.hid (HB2.out.trans ((HBR.out.trans (hb4.mono HBR.out.size)).mono HB2.out.size))
        obtain ⟨A4, c4, hv, hs4⟩ := hi4
        rw [if_neg (by simp)] at hv hs4
        rw [show decide ((r : Int) < 0) = false from decide_eq_false (by omega), Int.natAbs_natCast] at hv
        rw [Int.natAbs_natCast] at hs4
        subst hv
        have HS4 := Lib.hid hs4
        obtain ⟨r0, r1, r2, r3⟩ := HR4.out
        clear hs4 hb4
        go_wp2
        refine bodyPost_ret (v := .tuple #[.agg #[.bool false, .slice A4 (W r).length c4], .int .i64 0]) (by simp [results, Try.results45, go_sem, r0, r1]) rfl ?_
        exact RtOut.stored (r := r) HR4.out (fun _ => by rw [HA.out]; exact HQ.out) (fun h => absurd h (by have := HS.out; omega)) HS4.out HB4.out (by omega) (by rw [if_neg (by have := HS.out; omega)])
      · obtain ⟨i, rfl⟩ : ∃ i, gk = i + 1 := ⟨gk - 1, by omega⟩
        clear h0
        have hst : RB a r (65536 ^ i * 2 ^ 16) := by have := HRB.out; rw [Nat.pow_succ] at this; exact this
        have HST := Lib.hid hst
        have hmk := makeI i (by omega) (i : Int) rfl
        have e1 : ((i + 1 : Nat) : Int) - 1 = (i : Int) := by omega
        rw [e1]
        clear e1
        clear hst HRB
        go_wp2
        go_loopg [5, 7, 8] 16 (fun k t5 t7 _ wi => ∃ (r : Nat) (R : Option Addr) (cr : Nat), (RB a r (65536 ^ i * 2 ^ k) ∧ k ≤ 16 ∧ (D r).length ≤ (D a).length + 3 ∧ Sl wi .i64 R cr (D r) ∧ Below w2.heap.size w2 wi) ∧ t5 = .slice R (D r).length cr ∧ t7 = .int .i64 ((2 ^ k / 2 : Nat) : Int))
        case atStart => exact ⟨r, R, cr, ⟨HST.out, Nat.le_refl _, hrl, HSR.out, HBR.out⟩, rfl, by go_num⟩
        case round =>
          obtain ⟨r, R, cr, ⟨hrb, hk2, hrl, hsr, hbel⟩, rfl, rfl⟩ := hrel
          obtain ⟨wo, rfl⟩ : ∃ wo : World, wo = wr := ⟨_, rfl⟩
          have hcr := hsr.le
          have hcrm := hsr.max
          have HRB := Lib.hid hrb
          have HSR := Lib.hid hsr
          have HBR := Lib.hid hbel
          have hszr := hbel.size
          clear hrb hsr hbel
          by_cases h0 : gk = 0
          · subst h0
            have hrb := HRB.out
            rw [Nat.pow_zero, Nat.mul_one] at hrb
            have HRB2 := Lib.hid hrb
            clear hrb
            go_wp2
            go_roundg i
            case rel => exact ⟨r, R, cr, ⟨HRB2.out, by omega, hrl, HSR.out, HBR.out⟩, rfl, by go_num⟩
            case measure => omega
          · obtain ⟨m, rfl⟩ : ∃ m, gk = m + 1 := ⟨gk - 1, by omega⟩
            obtain ⟨q, hq⟩ : ∃ q : Nat, q = 2 ^ m := ⟨_, rfl⟩
            have hq1 : 1 ≤ q := by rw [hq]; exact Nat.one_le_two_pow
            have hq2 : q ≤ 32768 := by rw [hq]; exact Nat.pow_le_pow_right (n := 2) (by decide) (show m ≤ 15 by omega)
            have eq1 : ((2 ^ (m + 1) / 2 : Nat) : Int) = (q : Int) := by rw [pow2_half, hq]
            rw [eq1]
            have hQ : 65536 ^ i * 2 ^ (m + 1) = 2 * (65536 ^ i * q) := by rw [Nat.pow_succ, ← hq, ← Nat.mul_assoc, Nat.mul_comm]
            have hrb := HRB.out
            rw [hQ] at hrb
            have HRB2 := Lib.hid hrb
            have HQ := Lib.hid hq
            have hvl : val 65536 (List.replicate i 0 ++ [q]) = 65536 ^ i * q := by rw [val_snoc, val_replicate, List.length_replicate, Nat.zero_add]
            have hlt : ∀ x ∈ List.replicate i 0 ++ [q], x < 65536 := by
              intro x hx
              rcases List.mem_append.1 hx with h | h
              · have := List.eq_of_mem_replicate h; omega
              · simp at h; omega
            have hnl : (D (r + 65536 ^ i * q)).length ≤ (D a).length + 4 := D_len_next hrl (by omega) (by omega)
            have hown0 := (Ar.new' wo .i64 3 (List.replicate i 0)).own (base := wo.heap.size) (n := i) (Nat.le_refl _) (by simp) (by omega)
            have HOWN := Lib.hid (World.ownsRow_alloc' hown0 (Obj.cells #[Value.int IntKind.i64 (q : Int)] 3))
            have HVL := Lib.hid hvl
            have HLT := Lib.hid hlt
            clear hrb hvl hlt hown0 hQ eq1 h0 hq HRB
            go_wp2_with (at_builtin; refine wpList_append_own _ rfl _ _ 74 rfl wo.heap.size 3 i0 (.int .i64 0) 1 8 Try.underlying74 hi hz0 hz1 hz2 rfl (by decide) _ i (vals .i64 (List.replicate i 0)) rfl HOWN.out ⟨wo.heap.size + 1, 0, none⟩ 1 1 [.int .i64 (q : Int)] rfl rfl (new_one _ _ _ _ (by simp)) (by intro u hu; simp at hu; subst hu; rfl) (by unfold maxLen; omega) (by omega) (by simp; omega) ?_)
            intro v2 w2' hown2 hgrow2 _
            have hbel2 : Below wo.heap.size wo w2' := (((Below.refl wo.heap.size wo).alloc (Nat.le_refl _) _).alloc (by simp) _).grown hgrow2 (by simp; omega) (by intro j hj; simp [Value.ownBlock] at hj; omega)
            have hown3 : w2'.ownsRow wo.heap.size 3 1 v2 (List.replicate i 0 ++ [q]).length (vals .i64 (List.replicate i 0 ++ [q])) := by
              rw [vals_append, List.length_append, List.length_replicate]
              have e0 : vals .i64 [q] = [.int .i64 (q : Int)] := by simp [vals]
              rw [e0]; exact hown2
            obtain ⟨A1, c1, rfl, -, hs1⟩ := own_sl hown3
            have hll : (List.replicate i 0 ++ [q]).length = i + 1 := by simp
            have hc1 := hs1.le
            have hc1m := hs1.max
            rw [hll] at hc1
            have HS1 := Lib.hid hs1
            have HLL := Lib.hid hll
            have HSR2 := Lib.hid (HSR.out.below hbel2)
            have HB2' := Lib.hid (HBR.out.trans (hbel2.mono HBR.out.size))
            clear hown2 hgrow2 hown3 hs1 hbel2 hll
            go_wp2_with fail
            refine (rplus_val (r := r) (p := 65536 ^ i * q) (n := i + 1) HSR2.out HS1.out HLT.out HVL.out HLL.out (by omega) (by omega)).mono ?_
            rintro e w4 ⟨A4, c4, rfl, hs4, hb4⟩
            have hc4 := hs4.le
            have hc4m := hs4.max
            have HS4 := Lib.hid hs4
            have HSR3 := Lib.hid (HSR2.out.below hb4)
            have HB4 := Lib.hid (HB2'.out.trans (hb4.mono HB2'.out.size))
            clear hs4 hb4 HS1 HSR2 HB2'
            have htl : (D ((r + 65536 ^ i * q) * (r + 65536 ^ i * q))).length ≤ 8000100 := by have := D_len_mul (r + 65536 ^ i * q) (r + 65536 ^ i * q); omega
            generalize hnn : r + 65536 ^ i * q = nn at *
            have HNN := Lib.hid hnn
            clear hnn
            go_wp2_with fail
            refine (rtimesD HS4.out HS4.out (by omega) (by omega)).mono ?_
            rintro e w5 ⟨A5, c5, rfl, hs5, hb5⟩
            have HS5 := Lib.hid hs5
            have HS4b := Lib.hid (HS4.out.below hb5)
            have HSR4 := Lib.hid (HSR3.out.below hb5)
            have HB5 := Lib.hid (HB4.out.trans (hb5.mono HB4.out.size))
            have HA5 := Lib.hid (HSA.out.below HB5.out)
            clear hs5 hb5 HS4 HSR3 HB4
            by_cases hless : a < nn * nn
            · have hd : decide (a < nn * nn) = true := decide_eq_true hless
              have HN : Hid (RB a r (65536 ^ i * 2 ^ m)) := Lib.hid (by rw [← HQ.out]; exact HRB2.out.leave (by rw [HNN.out]; omega))
              clear hless
              go_wp2_with fail
              refine (rless_any A A5 cA c5 a (nn * nn) _ HA5.out HS5.out).mono ?_
              rw [hd]
              rintro e w6 ⟨rfl, n6, rfl⟩
              have HB6 := Lib.hid (below_drawn HB5.out n6)
              have HSR6 := Lib.hid (HSR4.out.drewN n6)
              clear hd HB5 HS5 HS4b HA5 HSR4 HRB2
              go_wp2
              go_roundg m
              case rel => exact ⟨r, R, cr, ⟨HN.out, by omega, hrl, HSR6.out, HB6.out⟩, rfl, congrArg (Value.int .i64) (by have := HQ.out; omega)⟩
              case measure => omega
            · have hd : decide (a < nn * nn) = false := decide_eq_false hless
              have HN : Hid (RB a nn (65536 ^ i * 2 ^ m)) := Lib.hid (by rw [← HQ.out, ← HNN.out]; exact HRB2.out.take_ (by rw [HNN.out]; omega))
              have hnl2 : (D nn).length ≤ (D a).length := D_len_mono HN.out.le
              clear hless
              go_wp2_with fail
              refine (rless_any A A5 cA c5 a (nn * nn) _ HA5.out HS5.out).mono ?_
              rw [hd]
              rintro e w6 ⟨rfl, n6, rfl⟩
              have HB6 := Lib.hid (below_drawn HB5.out n6)
              have HSR6 := Lib.hid (HS4b.out.drewN n6)
              clear hd HB5 HS5 HS4b HA5 HSR4 HRB2
              go_wp2
              go_roundg m
              case rel => exact ⟨nn, A4, c4, ⟨HN.out, by omega, by omega, HSR6.out, HB6.out⟩, rfl, congrArg (Value.int .i64) (by have := HQ.out; omega)⟩
              case measure => omega
end Go.Proofs.Ytcbdnnboddahkaa.Ws
