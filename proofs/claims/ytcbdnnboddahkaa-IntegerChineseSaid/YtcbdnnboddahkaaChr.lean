/-
  WALKS of the reference: the residue that has all residues of a list.
-/
import Derived.Test.YtcbdnnboddahkaaChp
namespace Go.Proofs.Ytcbdnnboddahkaa.Cn
open Go.RowKit Ws
set_option linter.unusedVariables false
set_option maxRecDepth 100000
theorem cop {M m : Int} (hm : 1 ≤ m) : Int.gcd (M / gz M m) (m / gz M m) = 1 := by
  have hg := gz_pos (a := M) hm
  obtain ⟨a, ha⟩ := gz_left M m
  obtain ⟨b, hb⟩ := gz_right M m
  have ea : M / gz M m = a := Int.ediv_eq_of_eq_mul_right (by omega) ha
  have eb : m / gz M m = b := Int.ediv_eq_of_eq_mul_right (by omega) hb
  rw [ea, eb]
  have e1 : Int.gcd (gz M m * a) (gz M m * b) = (gz M m).natAbs * Int.gcd a b := Int.gcd_mul_left _ _ _
  rw [← ha, ← hb] at e1
  have e2 : (gz M m).natAbs = Int.gcd M m := by unfold gz; simp
  rw [e2] at e1
  have e3 : 0 < Int.gcd M m := by unfold gz at hg; omega
  exact Nat.eq_of_mul_eq_mul_left e3 (by omega)
theorem nmod {m : Int} (h : modB m = false) : ¬ modP m := fun h' => by
  unfold modB at h
  exact (of_decide_eq_false h) h'
theorem js_one {R M r m : Int} (h : m / gz M m = 1) : JS R M r m 0 := by
  refine ⟨by omega, by omega, 0, ?_, ?_⟩
  · rw [h]; exact Int.one_dvd _
  · rw [h, Int.mul_zero]; rfl
theorem js_inv {R M r m x : Int} (hm : 1 ≤ m) (h : IsInv (M / gz M m) (m / gz M m) x) : JS R M r m ((r % m - R).tdiv (gz M m) % (m / gz M m) * x % (m / gz M m)) := by
  have hq := q_pos (M := M) hm
  exact ⟨Int.emod_nonneg _ (by omega), Int.emod_lt_of_pos _ (by omega), x, h.2.2, rfl⟩
theorem big_bd {M m : Int} (hM : 1 ≤ M) (hM2 : M ≤ 1000000000) (hm : 1 ≤ m) (hm2 : m ≤ 1000000000) : 0 ≤ M / gz M m * m ∧ M / gz M m * m ≤ 1000000000000000000 := by
  rw [← big_le hM hm]
  have h1 := q_pos (M := M) hm
  have h2 := q_le (M := M) hm
  refine ⟨Int.mul_nonneg (by omega) (by omega), ?_⟩
  have := Int.mul_le_mul hM2 (show m / gz M m ≤ 1000000000 by omega) (by omega) (by omega)
  omega
set_option maxHeartbeats 2000000 in
theorem rchin_any (A : Option Addr) (c : Nat) (ps : List (Int × Int)) (w : World) (hA : Rs w A ps) (hc : ps.length ≤ c) (hcm : c ≤ 9223372036854775807) :
    Calls Try.prog 55 #[.slice A ps.length c] w fun e w' => ChOut ps e ∧ Below w.heap.size w w' := by
  have hB : Below w.heap.size w (w.alloc (Obj.cells #[Value.int IntKind.i64 0, Value.int IntKind.i64 0] 66)) := by go_grown
  have HA := Lib.hid hA
  have HB := Lib.hid hB
  have HP := Lib.hid (Pt.new w 0 0)
  clear hA hB
  by_cases hlen : 20 < ps.length
  · go_enter Try.func55, Try.ntmps55
    go_wp2_with fail
    generalize (w.alloc (Obj.cells #[Value.int IntKind.i64 0, Value.int IntKind.i64 0] 66)) = W0 at *
    obtain ⟨p0, p1, p2, p3⟩ := HP.out
    go_wp2
    refine bodyPost_ret (v := .tuple #[.agg #[.int .i64 0, .int .i64 0], .int .i64 8]) (by simp [results, Try.results55, go_sem, p0, p1]) rfl ?_
    exact ⟨⟨0, 0, 8, .inl ⟨hlen, rfl, rfl, rfl⟩, rfl⟩, HB.out⟩
  · have hps : ps.length ≤ 20 := by omega
    go_enter Try.func55, Try.ntmps55
    go_wp2_with fail
    generalize (w.alloc (Obj.cells #[Value.int IntKind.i64 0, Value.int IntKind.i64 0] 66)) = W0 at *
    go_wp2
    go_loopg [4] ps.length (fun gg t4 wr => ∃ kk : Nat, (kk ≤ ps.length ∧ ps.length - kk ≤ gg ∧ (∀ i, i < kk → modP (ps.getD i (0, 0)).2) ∧ Pt wr w.heap.size 0 0 ∧ Below w.heap.size w wr) ∧ t4 = .int .i64 kk)
    case atStart => exact ⟨0, ⟨Nat.zero_le _, by omega, fun i h1 => by omega, HP.out, HB.out⟩, rfl⟩
    case round =>
      obtain ⟨kk, ⟨hk, hg, hno, hpt, hbel⟩, rfl⟩ := hrel
      have HNO := Lib.hid hno
      have HPT := Lib.hid hpt
      have HBW := Lib.hid hbel
      clear hno hpt hbel HP HB
      by_cases hlt : kk < ps.length
      · obtain ⟨b, o, r, m, rfl, EQ, hc1, hc2, hbb⟩ := (HA.out.below HBW.out).at_ hlt
        cases hm : modB m with
        | false =>
          have HBAD : Hid (bad ps) := Lib.hid ⟨kk, hlt, by rw [EQ.out]; exact nmod hm⟩
          obtain ⟨p0, p1, p2, p3⟩ := HPT.out
          go_wp2_with (go_at_call 119; refine (isModR_any m _).mono ?_; rw [hm]; rintro e w2 ⟨rfl, rfl⟩)
          refine bodyPost_ret (v := .tuple #[.agg #[.int .i64 0, .int .i64 0], .int .i64 2]) (by simp [results, Try.results55, go_sem, p0, p1]) rfl ?_
          exact ⟨⟨0, 0, 2, .inr ⟨hlen, .inl ⟨HBAD.out, rfl, rfl, rfl⟩⟩, rfl⟩, stored HBW.out (Nat.le_refl _) 0 0⟩
        | true =>
          have HNN : Hid (∀ i, i < kk + 1 → modP (ps.getD i (0, 0)).2) := Lib.hid (fun i h1 => by
            rcases Nat.lt_or_ge i kk with h | h
            · exact HNO.out i h
            · have : i = kk := by omega
              subst this
              rw [EQ.out]; exact modB_of hm)
          go_wp2_with (go_at_call 119; refine (isModR_any m _).mono ?_; rw [hm]; rintro e w2 ⟨rfl, rfl⟩)
          go_roundg (ps.length - (kk + 1))
          case rel => exact ⟨kk + 1, ⟨by omega, by omega, HNN.out, HPT.out, HBW.out⟩, by go_num⟩
          case measure => omega
      · have hkl : kk = ps.length := by omega
        subst hkl
        have HALL := HNO
        have HNB : Hid (¬ bad ps) := Lib.hid (fun ⟨j, h1, h2⟩ => h2 (HALL.out j h1))
        clear HNO hlt hk hg
        go_wp2
        go_loopg [5, 6, 7] ps.length (fun gg t5 _ _ wr => ∃ kk : Nat, (kk ≤ ps.length ∧ ps.length - kk ≤ gg ∧ (∀ i j, j < i → i < kk → ¬ clP (ps.getD i (0, 0)) (ps.getD j (0, 0))) ∧ Pt wr w.heap.size 0 0 ∧ Below w.heap.size w wr) ∧ t5 = .int .i64 kk)
        case atStart => exact ⟨0, ⟨Nat.zero_le _, by omega, fun i j h1 h2 => by omega, HPT.out, HBW.out⟩, rfl⟩
        case round =>
          obtain ⟨kk, ⟨hk, hg, hno, hpt, hbel⟩, rfl⟩ := hrel
          have HNO := Lib.hid hno
          have HPT := Lib.hid hpt
          have HBW := Lib.hid hbel
          clear hno hpt hbel
          by_cases hlt : kk < ps.length
          · go_wp2
            go_loopg [6, 7] kk (fun gg t6 _ wr => ∃ jj : Nat, (jj ≤ kk ∧ kk - jj ≤ gg ∧ (∀ j, j < jj → ¬ clP (ps.getD kk (0, 0)) (ps.getD j (0, 0))) ∧ Pt wr w.heap.size 0 0 ∧ Below w.heap.size w wr) ∧ t6 = .int .i64 jj)
            case atStart => exact ⟨0, ⟨Nat.zero_le _, by omega, fun j h1 => by omega, HPT.out, HBW.out⟩, rfl⟩
            case round =>
              obtain ⟨jj, ⟨hj, hg2, hno2, hpt, hbel⟩, rfl⟩ := hrel
              obtain ⟨wi, rfl⟩ : ∃ wi : World, wi = wr := ⟨_, rfl⟩
              have HNO2 := Lib.hid hno2
              have HPT2 := Lib.hid hpt
              have HBW2 := Lib.hid hbel
              clear hno2 hpt hbel HPT HBW
              by_cases hlt2 : jj < kk
              · obtain ⟨b, o, r, m, rfl, EQ, hc1, hc2, hbb⟩ := (HA.out.below HBW2.out).at_ hlt
                obtain ⟨b', o', r', m', he, EQ', hc1', hc2', hbb'⟩ := (HA.out.below HBW2.out).at_ (show jj < ps.length by omega)
                injection he with he
                injection he with he1 he2
                subst he1 he2
                obtain ⟨hm1, hm2⟩ : modP m := by have := HALL.out kk hlt; rw [EQ.out] at this; exact this
                obtain ⟨hm3, hm4⟩ : modP m' := by have := HALL.out jj (by omega); rw [EQ'.out] at this; exact this
                have hg1 := gz_pos (a := m) hm3
                have hgl : gz m m' ≤ m' := Int.le_of_dvd (by omega) (gz_right m m')
                have HCP : Hid ((r % gz m m' != r' % gz m m') = clB (r, m) (r', m')) := Lib.hid rfl
                have HGZ : Hid (((Int.gcd m m' : Nat) : Int) = gz m m') := Lib.hid rfl
                generalize gz m m' = g at *
                go_wp2
                go_quiet ((go_at_call 116; exact Calls.quiet_of (rgcd_any _ _ _ (by omega) (by omega) (by omega) (by omega))))
                rw [HGZ.out]
                have d1 : (wi.drewN nq).cell? ⟨b, o + kk * 2, none⟩ = some (.int .i64 r) := hc1
                have d2 : (wi.drewN nq).cell? ⟨b, o + jj * 2, none⟩ = some (.int .i64 r') := hc1'
                have HPT3 := Lib.hid (HPT2.out.drewN nq)
                have HBW3 := Lib.hid (below_drawn HBW2.out nq)
                clear hc1 hc2 hc1' hc2' HPT2 HBW2
                generalize wi.drewN nq = w2 at *
                cases hcl : clB (r, m) (r', m') with
                | true =>
                  rw [hcl] at HCP
                  have hne := HCP.out
                  have HCC : Hid (clash ps) := Lib.hid ⟨kk, jj, hlt2, hlt, by rw [EQ.out, EQ'.out]; exact clB_iff.1 hcl⟩
                  go_wp2
                  go_quiet ((go_at_call 120; exact quietE (rmod_any _ _ _ hg1 (by omega))))
                  obtain ⟨p0, p1, p2, p3⟩ := HPT3.out.drewN nq
                  go_wp2
                  refine bodyPost_ret (v := .tuple #[.agg #[.int .i64 0, .int .i64 0], .int .i64 12]) (by simp [results, Try.results55, go_sem, p0, p1]) rfl ?_
                  exact ⟨⟨0, 0, 12, .inr ⟨hlen, .inr ⟨HNB.out, .inl ⟨HCC.out, rfl, rfl, rfl⟩⟩⟩, rfl⟩, stored (below_drawn HBW3.out nq) (Nat.le_refl _) 0 0⟩
                | false =>
                  rw [hcl] at HCP
                  have hne := HCP.out
                  have HNN : Hid (∀ j, j < jj + 1 → ¬ clP (ps.getD kk (0, 0)) (ps.getD j (0, 0))) := Lib.hid (fun j h1 => by
                    rcases Nat.lt_or_ge j jj with h | h
                    · exact HNO2.out j h
                    · have : j = jj := by omega
                      subst this
                      rw [EQ.out, EQ'.out]; intro h2; rw [clB_iff.2 h2] at hcl; cases hcl)
                  go_wp2
                  go_quiet ((go_at_call 120; exact quietE (rmod_any _ _ _ hg1 (by omega))))
                  go_wp2
                  go_roundg (kk - (jj + 1))
                  case rel => exact ⟨jj + 1, ⟨by omega, by omega, HNN.out, HPT3.out.drewN nq, below_drawn HBW3.out nq⟩, by go_num⟩
                  case measure => omega
              · have hjk : jj = kk := by omega
                subst hjk
                have HNN : Hid (∀ i j, j < i → i < jj + 1 → ¬ clP (ps.getD i (0, 0)) (ps.getD j (0, 0))) := Lib.hid (fun i j h1 h2 => by
                  rcases Nat.lt_or_ge i jj with h | h
                  · exact HNO.out i j h1 h
                  · have : i = jj := by omega
                    subst this
                    exact HNO2.out j h1)
                go_wp2
                go_roundg (ps.length - (jj + 1))
                case rel => exact ⟨jj + 1, ⟨by omega, by omega, HNN.out, HPT2.out, HBW2.out⟩, by go_num⟩
                case measure => omega
          · have hkl : kk = ps.length := by omega
            subst hkl
            have HNC : Hid (¬ clash ps) := Lib.hid (fun ⟨i, j, h1, h2, h3⟩ => HNO.out i j h1 h2 h3)
            obtain ⟨wr0, rfl⟩ : ∃ wi : World, wi = wr := ⟨_, rfl⟩
            have hnew := Pt.new wr0 0 1
            have hB3 : Below wr0.heap.size wr0 (wr0.alloc (Obj.cells #[Value.int IntKind.i64 0, Value.int IntKind.i64 1] 66)) := by go_grown
            have HNEW := Lib.hid hnew
            have HB3 := Lib.hid (HBW.out.trans (hB3.mono HBW.out.size))
            have HPT3 := Lib.hid (HPT.out.below hB3 HPT.out.lt)
            have hgg := HPT.out.lt
            clear hnew hB3 HNO hlt HPT HBW
            go_wp2
            generalize (wr0.alloc (Obj.cells #[Value.int IntKind.i64 0, Value.int IntKind.i64 1] 66)) = W6 at *
            generalize wr0.heap.size = g6 at *
            go_loopg [9, 10, 11, 12, 13, 14] ps.length (fun gg t9 _ _ _ _ _ wi => ∃ (kk : Nat) (R M : Int), (kk ≤ ps.length ∧ ps.length - kk ≤ gg ∧ Jn ps kk R M ∧ Pt wi w.heap.size 0 0 ∧ Pt wi g6 R M ∧ Below w.heap.size w wi) ∧ t9 = .int .i64 kk)
            case atStart => exact ⟨0, 0, 1, ⟨Nat.zero_le _, by omega, Jn.zero, HPT3.out, HNEW.out, HB3.out⟩, rfl⟩
            case round =>
              obtain ⟨kk, R, M, ⟨hk, hg, hj, hpt, hp6, hbel⟩, rfl⟩ := hrel
              obtain ⟨wi, rfl⟩ : ∃ wi : World, wi = wr := ⟨_, rfl⟩
              obtain ⟨b1, b2, b3, b4⟩ := hj.bd HALL.out
              have HJ := Lib.hid hj
              have HPT := Lib.hid hpt
              have HP6 := Lib.hid hp6
              have HBI := Lib.hid hbel
              clear hj hpt hp6 hbel HPT3 HNEW HB3
              by_cases hlt : kk < ps.length
              · obtain ⟨b, o, r, m, rfl, EQ, hc1, hc2, hbb⟩ := (HA.out.below HBI.out).at_ hlt
                obtain ⟨hm1, hm2⟩ : modP m := by have := HALL.out kk hlt; rw [EQ.out] at this; exact this
                obtain ⟨p0, p1, -, -⟩ := HP6.out
                have hg1 := gz_pos (a := M) hm1
                have hgl : gz M m ≤ m := Int.le_of_dvd (by omega) (gz_right M m)
                have hq1 := q_pos (M := M) hm1
                have hq2 := q_le (M := M) hm1
                obtain ⟨hbb1, hbb2⟩ := big_bd b3 b4 hm1 hm2
                have HBL := Lib.hid (big_le b3 hm1)
                have HGZ : Hid (((Int.gcd M m : Nat) : Int) = gz M m) := Lib.hid rfl
                have HCOP := Lib.hid (cop (M := M) hm1)
                have HJI := Lib.hid (fun x => js_inv (R := R) (r := r) (M := M) (x := x) hm1)
                have HJO := Lib.hid (fun h => js_one (R := R) (r := r) (M := M) (m := m) h)
                have hrm1 := Int.emod_nonneg r (b := m) (by omega)
                have hrm2 := Int.emod_lt_of_pos r (b := m) (by omega)
                have htd := tdiv_bd (z := r % m - R) hg1 (by omega) (by omega)
                generalize hgg : gz M m = g at *
                have HGG := Lib.hid hgg
                generalize hqq : m / g = q at *
                have HQQ := Lib.hid hqq
                have hg0 : g ≠ 0 := by omega
                clear hgg hqq
                have hwr : IntKind.i64.wrap ((r % m - R).tdiv g) = (r % m - R).tdiv g := by simp only [IntKind.wrap_i64]; omega
                have hMq : 0 ≤ M * q ∧ M * q ≤ 1000000000000000000 := by
                  refine ⟨Int.mul_nonneg (by omega) (by omega), ?_⟩
                  have := Int.mul_le_mul b4 (show q ≤ 1000000000 by omega) (by omega) (by omega)
                  omega
                obtain ⟨hMq1, hMq2⟩ := hMq
                obtain ⟨ht1, ht2⟩ := htd
                go_wp2
                go_quiet ((go_at_call 116; exact Calls.quiet_of (rgcd_any _ _ _ (by omega) (by omega) (by omega) (by omega))))
                rw [HGZ.out]
                have d1 : (wi.drewN nq).cell? ⟨b, o + kk * 2, none⟩ = some (.int .i64 r) := hc1
                have d2 : (wi.drewN nq).cell? ⟨b, o + kk * 2 + 1, none⟩ = some (.int .i64 m) := hc2
                have HPT3 := Lib.hid (HPT.out.drewN nq)
                have HP63 := Lib.hid (HP6.out.drewN nq)
                have HBW3 := Lib.hid (below_drawn HBI.out nq)
                clear hc1 hc2 HPT HP6 HBI p0 p1
                generalize wi.drewN nq = w2 at *
                obtain ⟨p0, p1, -, -⟩ := HP63.out
                by_cases hbig : 1000000000 < M / g * m
                · have hd : decide (1000000000 < M / g * m) = true := decide_eq_true hbig
                  go_wp2
                  go_quiet (fail)
                  have HPT4 := Lib.hid (HPT3.out.drewN nq)
                  have HBW4 := Lib.hid (below_drawn HBW3.out nq)
                  clear HPT3 HP63 HBW3 d1 d2 p0 p1 hd
                  generalize w2.drewN nq = w3 at *
                  obtain ⟨q0, q1', q2', q3'⟩ := HPT4.out
                  go_wp2
                  refine bodyPost_ret (v := .tuple #[.agg #[.int .i64 0, .int .i64 0], .int .i64 8]) (by simp [results, Try.results55, go_sem, q0, q1']) rfl ?_
                  exact ⟨⟨0, 0, 8, .inr ⟨hlen, .inr ⟨HNB.out, .inr ⟨HNC.out, .inl ⟨kk, R, M, hlt, HJ.out, by rw [EQ.out]; show _ < M * (m / gz M m); rw [HGG.out, HQQ.out, HBL.out]; exact hbig, rfl, rfl, rfl⟩⟩⟩⟩, rfl⟩, stored HBW4.out (Nat.le_refl _) 0 0⟩
                · have hd : decide (1000000000 < M / g * m) = false := decide_eq_false hbig
                  have hqd : m / g = q := HQQ.out
                  have hle : M * q ≤ 1000000000 := by rw [HBL.out]; omega
                  go_wp2
                  go_quiet (fail)
                  have e1 : (w2.drewN nq).cell? ⟨b, o + kk * 2, none⟩ = some (.int .i64 r) := d1
                  have e2 : (w2.drewN nq).cell? ⟨b, o + kk * 2 + 1, none⟩ = some (.int .i64 m) := d2
                  have HPT4 := Lib.hid (HPT3.out.drewN nq)
                  have HP64 := Lib.hid (HP63.out.drewN nq)
                  have HBW4 := Lib.hid (below_drawn HBW3.out nq)
                  clear d1 d2 HPT3 HP63 HBW3 p0 p1 hd
                  generalize w2.drewN nq = w3 at *
                  obtain ⟨p0, p1, p2, p3⟩ := HP64.out
                  by_cases hq : 1 < q
                  · have hmq : modB q = true := by unfold modB; exact decide_eq_true ⟨by omega, by omega⟩
                    go_wp2_with fail
                    refine (rinv_ok2 (M / g) q _ hmq HCOP.out).mono ?_
                    rintro e w4 ⟨⟨x, rfl, hinv⟩, rfl⟩
                    have HJS := Lib.hid (HJI.out x hinv)
                    obtain ⟨hx1, hx2, -⟩ := hinv
                    have hd1 := Int.emod_nonneg ((r % m - R).tdiv g) (b := q) (by omega)
                    have hd2 := Int.emod_lt_of_pos ((r % m - R).tdiv g) (b := q) (by omega)
                    obtain ⟨hp1, hp2⟩ := mul_bd hd1 hd2 hx1 hx2 (by omega)
                    have hs1 := Int.emod_nonneg ((r % m - R).tdiv g % q * x) (b := q) (by omega)
                    have hs2 := Int.emod_lt_of_pos ((r % m - R).tdiv g % q * x) (b := q) (by omega)
                    have hMs : 0 ≤ M * ((r % m - R).tdiv g % q * x % q) ∧ M * ((r % m - R).tdiv g % q * x % q) ≤ 1000000000000000000 := by
                      refine ⟨Int.mul_nonneg (by omega) hs1, ?_⟩
                      have := Int.mul_le_mul b4 (show (r % m - R).tdiv g % q * x % q ≤ 1000000000 by omega) hs1 (by omega)
                      omega
                    obtain ⟨hMs1, hMs2⟩ := hMs
                    clear hmq
                    go_wp2
                    go_quiet ((go_at_call 120; exact quietE (rmod_any _ _ _ (by omega) (by omega))))
                    have HPT5 := Lib.hid (HPT4.out.drewN nq)
                    have HP65 := Lib.hid (HP64.out.drewN nq)
                    have HBW5 := Lib.hid (below_drawn HBW4.out nq)
                    clear HPT4 HP64 HBW4 p0 p1 p2 p3 e1 e2
                    generalize w3.drewN nq = w5 at *
                    generalize hss : (r % m - R).tdiv g % q * x % q = s at *
                    clear hss
                    obtain ⟨p0, p1, p2, p3⟩ := HP65.out
                    have HJN : Hid (Jn ps (kk + 1) (R + M * s) (M * q)) := Lib.hid (by
                      have h := HJ.out.step hlt EQ.out HJS.out (by rw [HGG.out, HQQ.out]; exact hle)
                      rw [HGG.out, HQQ.out] at h; exact h)
                    have HSET := Lib.hid (HP65.out.set_ (R + M * s) (M * q))
                    have HPS := Lib.hid ((HPT5.out.other (p := ⟨g6, 0, none⟩) (by simp; omega) (.int .i64 (R + M * s))).other (p := ⟨g6, 1, none⟩) (by simp; omega) (.int .i64 (M * q)))
                    have HBS := Lib.hid (stored HBW5.out (g := g6) (by omega) (R + M * s) (M * q))
                    go_wp2
                    go_roundg (ps.length - (kk + 1))
                    case rel => exact ⟨kk + 1, _, _, ⟨by omega, by omega, HJN.out, HPS.out, HSET.out, HBS.out⟩, by go_num⟩
                    case measure => omega
                  · have hq1' : q = 1 := by omega
                    have HJS : Hid (JS R M r m 0) := Lib.hid (HJO.out (by rw [hq1']))
                    have HJN : Hid (Jn ps (kk + 1) R (M * q)) := Lib.hid (by
                      have h := HJ.out.step hlt EQ.out HJS.out (by rw [HGG.out, HQQ.out]; exact hle)
                      rw [HGG.out, HQQ.out, Int.mul_zero, Int.add_zero] at h; exact h)
                    have HSET := Lib.hid (HP64.out.set_ R (M * q))
                    have HPS := Lib.hid ((HPT4.out.other (p := ⟨g6, 0, none⟩) (by simp; omega) (.int .i64 R)).other (p := ⟨g6, 1, none⟩) (by simp; omega) (.int .i64 (M * q)))
                    have HBS := Lib.hid (stored HBW4.out (g := g6) (by omega) R (M * q))
                    have HQ1 := Lib.hid hq1'
                    clear hq1'
                    go_wp2
                    go_roundg (ps.length - (kk + 1))
                    case rel => exact ⟨kk + 1, _, _, ⟨by omega, by omega, HJN.out, HPS.out, HSET.out, HBS.out⟩, by go_num⟩
                    case measure => omega
              · have hkl : kk = ps.length := by omega
                subst hkl
                obtain ⟨p0, p1, -, -⟩ := HP6.out
                obtain ⟨q0, q1, q2, q3⟩ := HPT.out
                go_wp2
                refine bodyPost_ret (v := .tuple #[.agg #[.int .i64 R, .int .i64 M], .int .i64 0]) (by simp [results, Try.results55, go_sem, q0, q1]) rfl ?_
                exact ⟨⟨R, M, 0, .inr ⟨hlen, .inr ⟨HNB.out, .inr ⟨HNC.out, .inr ⟨HJ.out, rfl⟩⟩⟩⟩, rfl⟩, stored HBI.out (Nat.le_refl _) R M⟩
end Go.Proofs.Ytcbdnnboddahkaa.Cn
