/-
  How many roots there are where p does not divide a; the walk of the law IntegerHensel; a struct of two machine integers that came in, opened.
-/
import Derived.Test.YtcbdnnboddahkaaWRt
import Derived.IntWalk
import Derived.Test.YtcbdnnboddahkaaInts
import Derived.Test.YtcbdnnboddahkaaChecked
import Derived.WalkKit
import Derived.ProofKit
import Derived.OpenShut
import Derived.KernelRfl
import Derived.Lib.SmallJoins
namespace Go.Proofs.Ytcbdnnboddahkaa.He
open Nt
set_option linter.unusedVariables false
theorem len_sub {l : List Int} (hn : l.Pairwise (· < ·)) {m : List Int} (h : ∀ x ∈ l, x ∈ m) : l.length ≤ m.length := by
  induction l generalizing m with
  | nil => simp
  | cons a t ih =>
    obtain ⟨h1, h2⟩ := List.pairwise_cons.1 hn
    have ha := h a (by simp)
    have h3 : ∀ x ∈ t, x ∈ m.erase a := fun x hx => by
      have hne : x ≠ a := by have := h1 x hx; omega
      exact (List.mem_erase_of_ne hne).2 (h x (by simp [hx]))
    have := ih h2 h3
    rw [List.length_erase_of_mem ha] at this
    have : 0 < m.length := List.length_pos_of_mem ha
    simp; omega
theorem IsRts.odd_len {p a : Int} {k : Nat} {zs : List Int} (hp : Pr p.toNat) (h3 : 3 ≤ p) (hk : 1 ≤ k) (ha : ¬ p ∣ a) (h : IsRts a (p ^ k) zs) {r : Int} (hr : r ∈ zs) : zs.length = 2 := by
  obtain ⟨h0, h1, h2⟩ := (h.2 r).1 hr
  have := h.unique (two_rts hp h3 hk ha h0 h1 h2)
  rw [this, srt_length]; rfl
theorem two_cop {m x y : Int} {e : Nat} (hx : x % 2 = 1) (hy : y % 2 = 1) (h : 2 ^ (e + 1) ∣ (x - y) * (x + y)) : 2 ^ e ∣ x - y ∨ 2 ^ e ∣ x + y := by
  have hp2 : Pr (2 : Int).toNat := ⟨by decide, fun d hd => by
    have : d ≤ 2 := Nat.le_of_dvd (by decide) hd
    have h0 : d ≠ 0 := by rintro rfl; revert hd; decide
    show d = 1 ∨ d = 2
    omega⟩
  rcases Nat.eq_zero_or_pos e with h0 | h0
  · subst h0; left; simp
  obtain ⟨e', rfl⟩ : ∃ e', e = e' + 1 := ⟨e - 1, by omega⟩
  obtain ⟨u, hu⟩ : ∃ u, x - y = 2 * u := ⟨(x - y) / 2, by omega⟩
  obtain ⟨v, hv⟩ : ∃ v, x + y = 2 * v := ⟨(x + y) / 2, by omega⟩
  rw [hu, hv] at h ⊢
  have h4 : 2 ^ e' ∣ u * v := by
    obtain ⟨c, hc⟩ := h
    refine ⟨c, Int.eq_of_mul_eq_mul_left (a := 4) (by decide) ?_⟩
    have e2 : (2 : Int) ^ (e' + 1 + 1) = 4 * 2 ^ e' := by rw [Int.pow_succ, Int.pow_succ]; omega
    rw [e2] at hc
    grind
  have huv : u % 2 = 1 ∨ v % 2 = 1 := by omega
  have key : ∀ {s t : Int}, s % 2 = 1 → 2 ^ e' ∣ s * t → 2 ^ (e' + 1) ∣ 2 * t := fun {s t} hs hd => by
    have hg := cop_pow (pr_cop hp2 (by decide) (show ¬ (2 : Int) ∣ s by omega)) e'
    have := cop_cancel hg hd
    rw [Int.pow_succ, Int.mul_comm]
    exact Int.mul_dvd_mul (Int.dvd_refl 2) this
  rcases huv with h5 | h5
  · right; exact key h5 h4
  · left; rw [Int.mul_comm u v] at h4; exact key h5 h4
theorem near {t x c : Int} (ht : 0 < t) (h0 : 0 ≤ x) (h1 : x < 2 * t) (hd : t ∣ x - c) : x = c % t ∨ x = c % t + t := by
  have e1 : x % t = c % t := dvd_emod_eq hd
  have e2 := Int.mul_ediv_add_emod x t
  have d0 : 0 ≤ x / t := Int.ediv_nonneg h0 (by omega)
  have d1 : x / t < 2 := Int.ediv_lt_of_lt_mul ht (by omega)
  have : x / t = 0 ∨ x / t = 1 := by omega
  rcases this with h | h
  · rw [h] at e2; left; omega
  · rw [h] at e2; right; omega
theorem IsRts.two_len {a : Int} {e : Nat} {zs : List Int} (hk : 1 ≤ e) (ha : a % 2 = 1) (h : IsRts a (2 ^ e) zs) : zs.length ≤ 4 := by
  cases hz : zs with
  | nil => simp
  | cons r t =>
    rw [← hz]
    have hr : r ∈ zs := by rw [hz]; simp
    obtain ⟨e', rfl⟩ : ∃ e', e = e' + 1 := ⟨e - 1, by omega⟩
    have hodd : ∀ x ∈ zs, x % 2 = 1 := fun x hx => by
      obtain ⟨-, -, h2⟩ := (h.2 x).1 hx
      have h3 : (2 : Int) ∣ x * x - a := Int.dvd_trans (p_dvd_pow (by omega)) h2
      rcases (show x % 2 = 0 ∨ x % 2 = 1 by omega) with h4 | h4
      · have : (2 : Int) ∣ x * x := Int.dvd_mul_of_dvd_left (Int.dvd_of_emod_eq_zero h4)
        omega
      · exact h4
    have ht : (0 : Int) < 2 ^ e' := Int.pow_pos (by decide)
    have hsub : ∀ x ∈ zs, x ∈ [r % 2 ^ e', r % 2 ^ e' + 2 ^ e', (-r) % 2 ^ e', (-r) % 2 ^ e' + 2 ^ e'] := fun x hx => by
      obtain ⟨x0, x1, x2⟩ := (h.2 x).1 hx
      obtain ⟨r0, r1, r2⟩ := (h.2 r).1 hr
      have hd := Int.dvd_sub x2 r2
      have e2 : x * x - a - (r * r - a) = (x - r) * (x + r) := by grind
      rw [e2] at hd
      rw [Int.pow_succ, Int.mul_comm] at x1
      rcases two_cop (m := 0) (hodd x hx) (hodd r hr) hd with h5 | h5
      · rcases near ht x0 x1 h5 with h6 | h6 <;> simp [h6]
      · have h5' : 2 ^ e' ∣ x - (-r) := by have e3 : x - (-r) = x + r := by omega
                                           rw [e3]; exact h5
        rcases near ht x0 x1 h5' with h6 | h6 <;> simp [h6]
    exact len_sub h.1 hsub
/-- where Roots answers ErrLarge, p divides a -/
theorem RoS.large {a p k E : Int} {zs : List Int} (h : RoS a p k zs E) (hE : E ≠ 0) (he : ppE p k = 0) : E = 8 ∧ a % p = 0 := by
  obtain ⟨hp2, hpm, hpr, hk1, hq, hQ⟩ := pp_ok he
  rcases h with ⟨h0, -, -⟩ | ⟨-, full, hf, h⟩
  · exact absurd he h0
  · rcases h with ⟨-, -, h1⟩ | ⟨h1, -, h2⟩
    · exact absurd h1 hE
    · refine ⟨h2, Classical.byContradiction fun hn => ?_⟩
      have ha : ¬ p ∣ a := fun hd => hn (Int.emod_eq_zero_of_dvd hd)
      by_cases hp : p = 2
      · subst hp
        have := hf.two_len (by omega) (by omega)
        omega
      · cases hz : full with
        | nil => rw [hz] at h1; simp at h1
        | cons r t =>
          have := hf.odd_len hpr (by omega) (by omega) ha (r := r) (by rw [hz]; simp)
          omega
/-- where Lift answers, Roots answers two roots, and one is Lift's -/
theorem RoS.lift {a p k r E X : Int} {zs : List Int} (h : RoS a p k zs E) (hl : lfE a p k r = 0) (hX : LX p a r k.toNat X) : E = 0 ∧ zs.length = 2 ∧ X ∈ zs := by
  obtain ⟨h0, h3, hr, hd⟩ := lf_ok hl
  obtain ⟨hp2, hpm, hpr, hk1, hq, hQ⟩ := pp_ok h0
  rcases h with ⟨h1, -, -⟩ | ⟨-, full, hf, h⟩
  · exact absurd h0 h1
  · have ha : ¬ p ∣ a := fun hda => hr (by
      have h5 := Int.dvd_add hd hda
      rw [Int.sub_add_cancel] at h5
      exact pr_sq hpr hp2 h5)
    have hm : X ∈ full := (hf.2 X).2 ⟨hX.1, hX.2.1, hX.2.2.1⟩
    have hlen := hf.odd_len hpr h3 (by omega) ha hm
    rcases h with ⟨h1, h4, h5⟩ | ⟨h1, h4, h5⟩
    · exact ⟨h5, by rw [h4]; exact hlen, by rw [h4]; exact hm⟩
    · omega
end Go.Proofs.Ytcbdnnboddahkaa.He
namespace Go.Proofs.Ytcbdnnboddahkaa.He
open Nt
open Go.RowKit
open Ws (below_drawn)
set_option linter.unusedVariables false
set_option linter.unusedSimpArgs false
set_option maxRecDepth 100000
theorem withinB_t {n lo hi : Int} (h1 : lo ≤ n) (h2 : n ≤ hi) : withinB n lo hi = true := by unfold withinB; exact decide_eq_true ⟨h1, h2⟩
theorem lf_bd (a p k r : Int) : 0 ≤ lfE a p k r ∧ lfE a p k r ≤ 11 := by
  have := pp_bd p k
  unfold lfE
  split
  · exact this
  · split
    · omega
    · split <;> omega
theorem quietD {f : FuncId} {args : Array Value} {w : World} {n : Nat} {v : Value} (h : ∀ w, Calls Try.prog f args w fun e w' => e = .returned v ∧ w = w') : Calls Try.prog f args (w.drewN n) fun e w'' => e = .returned v ∧ ∃ m, w'' = w.drewN m :=
  Cn.quietE (h _)
set_option maxHeartbeats 4000000 in
theorem walk_hensel (a r p k : Int) (hk0 : -9223372036854775808 ≤ k) (hk2 : k ≤ 9223372036854775807) (w : World) :
    Calls Try.prog 18 #[.int .i64 a, .int .i64 r, .agg #[.int .i64 p, .int .i64 k]] w fun e w' => e = .returned (.bool true) ∧ Below w.heap.size w w' := by
  have HLF := Lib.hid (fun w => Lift_any a p k r w hk0 hk2)
  have HRL := Lib.hid (fun w => rLift_any a p k r w hk0 hk2)
  have HPP := Lib.hid (fun w => rpp_any p k w hk0 hk2)
  have HRT := Lib.hid (fun w => Roots_any a p k w hk0 hk2)
  have hb := pp_bd p k
  have hl := lf_bd a p k r
  obtain ⟨hb1, hb2⟩ := hb
  obtain ⟨hl1, hl2⟩ := hl
  have c0 : (w.alloc (Obj.cells #[.int .i64 p, .int .i64 k] 80)).cell? ⟨w.heap.size, 0, none⟩ = some (.int .i64 p) := by simp [go_sem]
  have c1 : (w.alloc (Obj.cells #[.int .i64 p, .int .i64 k] 80)).cell? ⟨w.heap.size, 1, none⟩ = some (.int .i64 k) := by simp [go_sem]
  have hB0 : Below w.heap.size w (w.alloc (Obj.cells #[.int .i64 p, .int .i64 k] 80)) := (Below.refl _ _).alloc (Nat.le_refl _) _
  have HB0 := Lib.hid hB0
  clear hB0
  go_enter Try.func18, Try.ntmps18
  go_wp2_with fail
  generalize (w.alloc (Obj.cells #[.int .i64 p, .int .i64 k] 80)) = W1 at *
  go_quiet (fail)
  have HB1 : Hid (Below w.heap.size w (W1.drewN nq)) := Lib.hid (below_drawn HB0.out nq)
  clear c0 c1 HB0
  generalize W1.drewN nq = W2 at *
  go_wp2_with fail
  refine (HLF.out _).mono ?_
  rintro e w2 ⟨⟨X, rfl, hX1, hX2⟩, rfl⟩
  go_wp2_with fail
  refine (HRL.out _).mono ?_
  rintro e w2 ⟨⟨X', rfl, hX1', hX2'⟩, n, rfl⟩
  obtain rfl := LfOut.unique ⟨hX1, hX2⟩ ⟨hX1', hX2'⟩
  have HXL := Lib.hid hX1
  have HB2 : Hid (Below w.heap.size w (W2.drewN n)) := Lib.hid (below_drawn HB1.out n)
  clear hX1 hX2 hX1' hX2' HB1
  generalize W2.drewN n = W3 at *
  have HLE : Hid (lfE a p k r = 0 → ppE p k = 0) := Lib.hid (fun h => (lf_ok h).1)
  obtain ⟨L, hL⟩ : ∃ L, lfE a p k r = L := ⟨_, rfl⟩
  have HL := Lib.hid hL
  rw [hL] at hl1 hl2 ⊢
  clear hL
  go_wp2_with fail
  refine (HPP.out _).mono ?_
  rintro e w2 ⟨rfl, rfl⟩
  by_cases he : ppE p k = 0
  · obtain ⟨hp2, hpm, hpr, hk1, hq, hQ⟩ := pp_ok he
    have hq0 : 0 < p ^ k.toNat := Int.pow_pos (by omega)
    have HE := Lib.hid he
    rw [he, hQ]
    have HIS : Hid (∀ zs, RoS a p k zs 0 → IsRts a (p ^ k.toNat) zs) := Lib.hid (fun zs h => by
      rcases h with ⟨h0, -, -⟩ | ⟨-, full, hf, h⟩
      · exact absurd he h0
      · rcases h with ⟨-, rfl, -⟩ | ⟨-, -, h2⟩
        · exact hf
        · omega)
    clear hpr hQ he hb1 hb2
    generalize p ^ k.toNat = q at *
    go_wp2_with fail
    refine (HRT.out _).mono ?_
    rintro e w4 ⟨⟨A, c, zs, E, rfl, hs, hli⟩, hbel⟩
    have HS := Lib.hid hs
    have HLI := Lib.hid hli
    have HB3 := Lib.hid (HB2.out.trans (hbel.mono HB2.out.size))
    obtain ⟨e1, e2, e3⟩ := hs.bd
    clear hs hli hbel HB2
    by_cases hE : E = 0
    · subst hE
      have HI := Lib.hid (HIS.out zs HS.out)
      have HFD : Hid (L = 0 → zs.length = 2 ∧ X ∈ zs) := Lib.hid (fun h => by
        have h0 : lfE a p k r = 0 := by rw [HL.out]; exact h
        exact (HS.out.lift h0 (HXL.out h0)).2)
      have HZ : Hid (∀ x ∈ zs, 0 ≤ x ∧ x < q ∧ (x * x - a % q) % q = 0) := Lib.hid (fun x hx => by
        obtain ⟨x0, x1, x2⟩ := (HI.out.2 x).1 hx
        refine ⟨x0, x1, Int.emod_eq_zero_of_dvd ?_⟩
        have e := Int.mul_ediv_add_emod a q
        have hd : q ∣ a - a % q := ⟨a / q, by omega⟩
        have := Int.dvd_add x2 hd
        have e5 : x * x - a + (a - a % q) = x * x - a % q := by omega
        rw [e5] at this; exact this)
      have HLT : Hid (∀ i j (hi : i < zs.length) (hj : j < zs.length), i < j → zs[i] < zs[j]) := Lib.hid (fun i j hi hj hij => List.pairwise_iff_getElem.1 HI.out.1 i j hi hj hij)
      have HLA := Lib.hid HLI.out.lt
      have ha1 := Int.emod_nonneg a (b := q) (by omega)
      have ha2 := Int.emod_lt_of_pos a hq0
      have hq9 : q ≤ 9223372036854775807 := by omega
      have hq1 : 1 ≤ q := by omega
      have HBA : Hid (∀ w, Calls Try.prog 50 #[.int .i64 a, .int .i64 q] w fun e w' => e = .returned (.int .i64 (a % q)) ∧ w = w') := Lib.hid (fun w => bmod_any a q w hq1 hq9)
      clear HIS
      go_wp2_with fail
      go_loopg [17, 18] zs.length (fun gg t17 t18 wr => ∃ (i : Nat) (fd : Bool), (i ≤ zs.length ∧ zs.length - i ≤ gg ∧ fd = (zs.take i).any (· == X) ∧ Below w4.heap.size w4 wr) ∧ t17 = .bool fd ∧ t18 = .int .i64 i)
      case atStart => exact ⟨0, false, ⟨Nat.zero_le _, by omega, by simp, Below.refl _ _⟩, rfl, rfl⟩
      case round =>
        obtain ⟨i, fd, ⟨hi, hg, hfd, hbel⟩, rfl, rfl⟩ := hrel
        obtain ⟨wi, rfl⟩ : ∃ wi : World, wi = wr := ⟨_, rfl⟩
        have HF := Lib.hid hfd
        have HB := Lib.hid hbel
        clear hfd hbel
        by_cases hlt : i < zs.length
        · obtain ⟨b, x, rfl, EX, hcell, hb1', hb2'⟩ := (HLI.out.below HB.out HLA.out).at_ hlt
          have hx := HZ.out x (by rw [← EX.out]; exact List.getElem_mem hlt)
          obtain ⟨hx0, hx1, hx2⟩ := hx
          have hxx : 0 ≤ x * x ∧ x * x ≤ 1000000000 * 1000000000 := ⟨Int.mul_nonneg hx0 hx0, Int.mul_le_mul (by omega) (by omega) hx0 (by omega)⟩
          obtain ⟨hxx1, hxx2⟩ := hxx
          have HW : Hid (∀ w, Calls Try.prog 53 #[.int .i64 x, .int .i64 0, .int .i64 (q - 1)] w fun e w' => e = .returned (.bool true) ∧ w = w') := Lib.hid (fun w => by
            have h := within_any x 0 (q - 1) w
            rw [withinB_t hx0 (by omega)] at h; exact h)
          have HBX : Hid (∀ w, Calls Try.prog 50 #[.int .i64 (x * x - a % q), .int .i64 q] w fun e w' => e = .returned (.int .i64 0) ∧ w = w') := Lib.hid (fun w => by
            have h := bmod_any (x * x - a % q) q w hq1 hq9
            rw [hx2] at h; exact h)
          clear hx2
          have HFN : Hid ((fd || x == X) = (zs.take (i + 1)).any (· == X)) := Lib.hid (by
            rw [List.take_succ_eq_append_getElem hlt, List.any_append, ← HF.out, EX.out]; simp)
          by_cases hi0 : i = 0
          · subst hi0
            go_wp2
            have hw1 : IntKind.i64.wrap (x * x) = x * x := IntWalk.i64_in _ (by omega)
            have hw2 : IntKind.i64.wrap (x * x - a % q) = x * x - a % q := IntWalk.i64_in _ (by omega)
            have hw3 : IntKind.i64.wrap (q - 1) = q - 1 := IntWalk.i64_in _ (by omega)
            go_quiet (first | (go_at_call 53; with_reducible exact quietD HW.out) | (go_at_call 50; first | (with_reducible exact quietD HBA.out) | (with_reducible exact quietD HBX.out)))
            clear hw1 hw2 hw3
            have HB5 : Hid (Below w4.heap.size w4 (wi.drewN nq)) := Lib.hid (below_drawn HB.out nq)
            have hcell5 : (wi.drewN nq).cell? ⟨b, 0, none⟩ = some (.int .i64 x) := hcell
            clear hcell HB
            generalize wi.drewN nq = wj at *
            cases fd with
            | true =>
              go_wp2
              go_roundg (zs.length - (0 + 1))
              case rel => exact ⟨0 + 1, true, ⟨by omega, by omega, by have := HFN.out; rw [Bool.true_or] at this; exact this, HB5.out⟩, rfl, by go_num⟩
              case measure => omega
            | false =>
              go_wp2
              go_roundg (zs.length - (0 + 1))
              case rel => exact ⟨0 + 1, (x == X), ⟨by omega, by omega, by have := HFN.out; rw [Bool.false_or] at this; exact this, HB5.out⟩, rfl, by go_num⟩
              case measure => omega
          · obtain ⟨b2, y, he2, EY, hcell2, -, -⟩ := (HLI.out.below HB.out HLA.out).at_ (j := i - 1) (by omega)
            injection he2 with he2
            injection he2 with he2
            subst he2
            have hyx : y < x := by rw [← EX.out, ← EY.out]; exact HLT.out (i - 1) i (by omega) hlt (by omega)
            have hyb := (HZ.out y (by rw [← EY.out]; exact List.getElem_mem _)).1
            have hi1 : 0 < (i : Int) := by omega
            have hi2 : 0 ≤ (i : Int) - 1 := by omega
            have hi3 : (i : Int) - 1 < zs.length := by omega
            go_wp2
            have hw1 : IntKind.i64.wrap (x * x) = x * x := IntWalk.i64_in _ (by omega)
            have hw2 : IntKind.i64.wrap (x * x - a % q) = x * x - a % q := IntWalk.i64_in _ (by omega)
            have hw3 : IntKind.i64.wrap (q - 1) = q - 1 := IntWalk.i64_in _ (by omega)
            have hw4 : IntKind.i64.wrap ((i : Int) - 1) = (i : Int) - 1 := IntWalk.i64_in _ (by omega)
            have hw5 : ((i : Int) - 1).toNat = i - 1 := by omega
            have hd1 : decide ((i : Int) > 0) = true := by rw [decide_eq_true_eq]; exact hi1
            have hd2 : decide (0 < (i : Int)) = true := by rw [decide_eq_true_eq]; exact hi1
            have hd3 : decide (0 < i) = true := by rw [decide_eq_true_eq]; exact Nat.pos_of_ne_zero hi0
            have hd4 : decide (x ≤ y) = false := by rw [decide_eq_false_iff_not]; exact Int.not_le.2 hyx
            have hd5 : 0 < i := Nat.pos_of_ne_zero hi0
            go_quiet (first | (go_at_call 53; with_reducible exact quietD HW.out) | (go_at_call 50; first | (with_reducible exact quietD HBA.out) | (with_reducible exact quietD HBX.out)))
            clear hw1 hw2 hw3 hw4 hw5 hcell2 hd1 hd2 hd3 hd4
            have HB5 : Hid (Below w4.heap.size w4 (wi.drewN nq)) := Lib.hid (below_drawn HB.out nq)
            have hcell5 : (wi.drewN nq).cell? ⟨b, i, none⟩ = some (.int .i64 x) := hcell
            clear hcell HB
            generalize wi.drewN nq = wj at *
            cases fd with
            | true =>
              go_wp2
              go_roundg (zs.length - (i + 1))
              case rel => exact ⟨i + 1, true, ⟨by omega, by omega, by have := HFN.out; rw [Bool.true_or] at this; exact this, HB5.out⟩, rfl, by go_num⟩
              case measure => omega
            | false =>
              go_wp2
              go_roundg (zs.length - (i + 1))
              case rel => exact ⟨i + 1, (x == X), ⟨by omega, by omega, by have := HFN.out; rw [Bool.false_or] at this; exact this, HB5.out⟩, rfl, by go_num⟩
              case measure => omega
        · have hil : i = zs.length := by omega
          subst hil
          have hany : Hid (L = 0 → fd = true ∧ (zs.length : Int) = 2) := Lib.hid (fun h => by
            obtain ⟨h5, h6⟩ := HFD.out h
            refine ⟨?_, by omega⟩
            rw [HF.out, List.take_length, List.any_eq_true]
            exact ⟨X, h6, by simp⟩)
          by_cases hL0 : L = 0
          · obtain ⟨rfl, h22⟩ := hany.out hL0
            have hLb : (L != 0) = false := by rw [hL0]; rfl
            have h2b : ((zs.length : Int) == 2) = true := by rw [h22]; rfl
            clear h22 hL0
            go_wp2_with fail
            refine (awake_any _).mono ?_
            rintro e w9 ⟨rfl, hb9⟩
            have HB9 := Lib.hid ((HB3.out.trans (HB.out.mono HB3.out.size)).trans (hb9.mono (HB3.out.trans (HB.out.mono HB3.out.size)).size))
            clear hb9
            go_wp2
            go_ret
            exact ⟨rfl, HB9.out⟩
          · have hLb : (L != 0) = true := by rw [bne_iff_ne]; exact hL0
            clear hL0
            go_wp2_with fail
            refine (awake_any _).mono ?_
            rintro e w9 ⟨rfl, hb9⟩
            have HB9 := Lib.hid ((HB3.out.trans (HB.out.mono HB3.out.size)).trans (hb9.mono (HB3.out.trans (HB.out.mono HB3.out.size)).size))
            clear hb9
            go_wp2
            go_ret
            exact ⟨rfl, HB9.out⟩
    · obtain ⟨h8, hap⟩ := HS.out.large hE HE.out
      have hL0 : (L != 0) = true := by
        rw [bne_iff_ne]; intro h
        have h0 : lfE a p k r = 0 := by rw [HL.out]; exact h
        exact hE (HS.out.lift h0 (HXL.out h0)).1
      subst h8
      have HBM : Hid (∀ w, Calls Try.prog 50 #[.int .i64 a, .int .i64 p] w fun e w' => e = .returned (.int .i64 0) ∧ w = w') := Lib.hid (fun w => by have h := bmod_any a p w (by omega) (by omega); rw [hap] at h; exact h)
      clear hap hE
      go_wp2_with (go_at_call 50; refine (HBM.out _).mono ?_; rintro e w2 ⟨rfl, rfl⟩)
      refine (awake_any _).mono ?_
      rintro e w9 ⟨rfl, hb9⟩
      have HB9 := Lib.hid (HB3.out.trans (hb9.mono HB3.out.size))
      clear hb9
      go_wp2
      go_ret
      exact ⟨rfl, HB9.out⟩
  · have hne : (ppE p k != 0) = true := by rw [bne_iff_ne]; exact he
    clear he
    generalize ppE p k = ee at *
    go_wp2_with fail
    refine (awake_any _).mono ?_
    rintro e w9 ⟨rfl, hb9⟩
    have HB9 := Lib.hid (HB2.out.trans (hb9.mono HB2.out.size))
    clear hb9
    go_wp2
    go_ret
    exact ⟨rfl, HB9.out⟩
end Go.Proofs.Ytcbdnnboddahkaa.He
namespace Go.Proofs.Ytcbdnnboddahkaa.He
open Go.ChangeShapes Go.WideShapes Go.ChangeAt Go.RowKit Go.Joins
set_option maxRecDepth 100000
theorem open_pow {H : Type} {enc : TypeId × Value → H} {W : World} {base base' : Nat} {spare : Nat → Bool} {held : Bool} {v : Value} {d : DataW H} {p : List MemPlace}
    (hv : Value.okWide Try.prog W .any base 80 v) (h : DataW.Trod enc Try.prog W base' spare held 80 v d p) :
    ∃ n0 n1 : Int, v = .agg #[.int .i64 n0, .int .i64 n1] ∧ (Lit.int .i64 n0).wf = true ∧ (Lit.int .i64 n1).wf = true := by
  obtain ⟨v0, v1, y0, y1, n, rfl, -, -, h0, h1⟩ := open_agg2 Try.underlying80 (by kernel_rfl) (by kernel_rfl) hv h
  obtain ⟨n0, e0, -, wf0⟩ := DataW.trod_int Try.underlying3 h0
  obtain ⟨n1, e1, -, wf1⟩ := DataW.trod_int Try.underlying3 h1
  simp at e0 e1
  exact ⟨n0, n1, by rw [e0, e1], wf0, wf1⟩
end Go.Proofs.Ytcbdnnboddahkaa.He
