/-
  WALK: Roots.
-/
import Derived.Test.YtcbdnnboddahkaaHeC
import Derived.Test.YtcbdnnboddahkaaHe3
namespace Go.Proofs.Ytcbdnnboddahkaa.He
open Nt
open Go.RowKit
open Ws (new_one infoI)
set_option linter.unusedVariables false
set_option linter.unusedSimpArgs false
set_option maxRecDepth 100000
/-- the first roots, moved by 0, s, .. (i - 1) s -/
def spread (s : Int) (zs : List Int) (i : Nat) : List Int := (List.range i).flatMap fun (j : Nat) => zs.map fun u => s * (j : Int) + u
theorem spread_succ (s : Int) (zs : List Int) (i : Nat) : spread s zs (i + 1) = spread s zs i ++ (zs.map fun u => s * (i : Int) + u) := by
  unfold spread; rw [List.range_succ, List.flatMap_append]; simp
theorem spread_len (s : Int) (zs : List Int) (i : Nat) : (spread s zs i).length = i * zs.length := by
  induction i with
  | zero => simp [spread]
  | succ i ih => rw [spread_succ, List.length_append, ih, List.length_map, Nat.succ_mul]
theorem spread_rts {a q s : Int} {zs : List Int} {N : Nat} (h : FR a q s zs) (hN : q = s * (N : Int)) : IsRts a q (spread s zs N) := by
  obtain ⟨h1, h2, h3, h4, h5⟩ := h
  refine ⟨?_, fun x => ?_⟩
  · unfold spread
    rw [List.pairwise_flatMap]
    refine ⟨fun j hj => ?_, ?_⟩
    · rw [List.pairwise_map]; exact h1.imp (by intro a b h; omega)
    · have : (List.range N).Pairwise (· < ·) := List.pairwise_lt_range
      refine this.imp ?_
      intro i j hij x hx y hy
      obtain ⟨u, hu, rfl⟩ := List.mem_map.1 hx
      obtain ⟨v, hv, rfl⟩ := List.mem_map.1 hy
      have hu2 := (h4 u hu).2
      have hv1 := (h4 v hv).1
      have : s * ((i : Int) + 1) ≤ s * (j : Int) := Int.mul_le_mul_of_nonneg_left (by omega) (by omega)
      rw [Int.mul_add, Int.mul_one] at this
      omega
  · unfold spread
    rw [List.mem_flatMap]
    constructor
    · rintro ⟨j, hj, hx⟩
      obtain ⟨u, hu, rfl⟩ := List.mem_map.1 hx
      obtain ⟨u1, u2⟩ := h4 u hu
      have hjN := List.mem_range.1 hj
      have hm : (s * (j : Int) + u) % s = u := by rw [Int.add_comm, Int.add_mul_emod_self_left, Int.emod_eq_of_lt u1 u2]
      have e0 : 0 ≤ s * (j : Int) := Int.mul_nonneg (by omega) (by omega)
      have e1 : s * ((j : Int) + 1) ≤ s * (N : Int) := Int.mul_le_mul_of_nonneg_left (by omega) (by omega)
      rw [Int.mul_add, Int.mul_one] at e1
      exact ⟨by omega, by omega, (h5 _).2 (by rw [hm]; exact hu)⟩
    · rintro ⟨x1, x2, x3⟩
      have hx := (h5 x).1 x3
      have e := Int.mul_ediv_add_emod x s
      have hd0 : 0 ≤ x / s := Int.ediv_nonneg x1 (by omega)
      have hd1 : x / s < N := Int.ediv_lt_of_lt_mul (by omega) (by rw [Int.mul_comm, ← hN]; exact x2)
      refine ⟨(x / s).toNat, List.mem_range.2 (by omega), List.mem_map.2 ⟨x % s, hx, ?_⟩⟩
      rw [Int.toNat_of_nonneg hd0]; exact e
theorem IsRts.mod {a q : Int} {zs : List Int} (h : IsRts (a % q) q zs) : IsRts a q zs := by
  refine ⟨h.1, fun x => (h.2 x).trans ?_⟩
  have e := Int.mul_ediv_add_emod a q
  have hd : q ∣ a - a % q := ⟨a / q, by omega⟩
  constructor
  · rintro ⟨h1, h2, h3⟩
    refine ⟨h1, h2, ?_⟩
    have := Int.dvd_sub h3 hd
    have e2 : x * x - a % q - (a - a % q) = x * x - a := by omega
    rw [e2] at this; exact this
  · rintro ⟨h1, h2, h3⟩
    refine ⟨h1, h2, ?_⟩
    have := Int.dvd_add h3 hd
    have e2 : x * x - a + (a - a % q) = x * x - a % q := by omega
    rw [e2] at this; exact this
/-- what Roots answers -/
def RoS (a p k : Int) (zs : List Int) (E : Int) : Prop := (ppE p k ≠ 0 ∧ zs = [] ∧ E = ppE p k) ∨ (ppE p k = 0 ∧ ∃ full, IsRts a (p ^ k.toNat) full ∧ ((full.length ≤ 1000 ∧ zs = full ∧ E = 0) ∨ (1000 < full.length ∧ zs = [] ∧ E = 8)))
def RoOut (w : World) (a p k : Int) (e : Ending) (w' : World) : Prop := (∃ (A : Option Addr) (c : Nat) (zs : List Int) (E : Int), e = .returned (.tuple #[.slice A zs.length c, .int .i64 E]) ∧ RoS a p k zs E ∧ LI w.heap.size w' A c zs) ∧ Below w.heap.size w w'
theorem pow_small {p : Int} {k : Nat} (h2 : 2 ≤ p) (h : p ^ k ≤ 1000000000) : k ≤ 40 := by
  rcases Nat.lt_or_ge k 41 with h1 | h1
  · omega
  · have h3 : p ^ 41 ≤ p ^ k := pow_mono (by omega) h1
    have h4 : (2 : Int) ^ 41 ≤ p ^ 41 := by
      have : ∀ n : Nat, (2 : Int) ^ n ≤ p ^ n := by
        intro n
        induction n with
        | zero => simp
        | succ n ih =>
          rw [Int.pow_succ, Int.pow_succ]
          exact Int.mul_le_mul ih h2 (by omega) (Int.pow_nonneg (by omega))
      exact this 41
    have : (2 : Int) ^ 41 = 2199023255552 := by decide
    omega
set_option maxHeartbeats 4000000 in
theorem Roots_any (a p k : Int) (w : World) (hk0 : -9223372036854775808 ≤ k) (hk2 : k ≤ 9223372036854775807) :
    Calls Try.prog 84 #[.int .i64 a, .int .i64 p, .int .i64 k] w fun e w' => RoOut w a p k e w' := by
  by_cases he : ppE p k = 0
  · obtain ⟨i0, hi, hz0, hz1, hz2⟩ := info_parts infoI
    obtain ⟨hp2, hpm, hpr, hk1, hq, hQ⟩ := pp_ok he
    have hq0 : 0 < p ^ k.toNat := Int.pow_pos (by omega)
    have HPP : Hid (Calls Try.prog 145 #[.int .i64 p, .int .i64 k] w fun e w' => e = .returned (.tuple #[.int .i64 (p ^ k.toNat), .int .i64 0]) ∧ w = w') := Lib.hid (by
      have h := pp_any p k w hk0 hk2
      rw [hQ, he] at h; exact h)
    have ha1 := Int.emod_nonneg a (b := p ^ k.toNat) (by omega)
    have ha2 := Int.emod_lt_of_pos a hq0
    have HFI : Hid (Calls Try.prog 146 #[.int .i64 (a % p ^ k.toNat), .int .i64 p, .int .i64 k, .int .i64 (p ^ k.toNat)] w fun e w' => FrOut w (a % p ^ k.toNat) (p ^ k.toNat) e w') := Lib.hid (by
      have h := first_any (a % p ^ k.toNat) p k.toNat w hpr hp2 hpm (by omega) (pow_small hp2 hq) hq ha1 ha2
      rw [Int.toNat_of_nonneg (by omega)] at h; exact h)
    have HRO : Hid (∀ zs E full, IsRts (a % p ^ k.toNat) (p ^ k.toNat) full → ((full.length ≤ 1000 ∧ zs = full ∧ E = 0) ∨ (1000 < full.length ∧ zs = [] ∧ E = 8)) → RoS a p k zs E) := Lib.hid (fun zs E full hf h => .inr ⟨he, full, hf.mod, h⟩)
    clear hpr hQ he
    generalize p ^ k.toNat = q at *
    go_enter Try.func84, Try.ntmps84
    go_wp2_with (first | (go_at_call 145; refine HPP.out.mono ?_; rintro e w2 ⟨rfl, rfl⟩) | (go_at_call 114; refine (residue_any _ _ _ (by omega) (by omega)).mono ?_; rintro e w2 ⟨rfl, rfl⟩) | (go_at_call 146; fail))
    refine HFI.out.mono ?_
    rintro e wo ⟨⟨A, c, fs, s, rfl, hfr, hfl, hli⟩, hbel⟩
    obtain ⟨N, hN, hN2⟩ : ∃ N : Nat, q = s * (N : Int) ∧ q / s = N := by
      obtain ⟨d, hd⟩ := hfr.2.2.1
      have hs := hfr.2.1
      have hd0 : 0 ≤ d := by
        rcases Int.lt_or_le d 0 with h | h
        · have : s * d ≤ s * (-1) := Int.mul_le_mul_of_nonneg_left (by omega) (by omega)
          omega
        · exact h
      refine ⟨d.toNat, by rw [Int.toNat_of_nonneg hd0]; exact hd, ?_⟩
      rw [Int.toNat_of_nonneg hd0, hd]
      exact Int.mul_ediv_cancel_left _ (by omega)
    have hs1 := hfr.2.1
    have HIS := Lib.hid (spread_rts hfr hN)
    have HZ := Lib.hid hfr.2.2.2.1
    have HN := Lib.hid hN
    have hNq : (N : Int) ≤ q := by
      rw [hN]
      have : 1 * (N : Int) ≤ s * (N : Int) := Int.mul_le_mul_of_nonneg_right hs1 (by omega)
      omega
    have hsq : s ≤ q := Int.le_of_dvd hq0 hfr.2.2.1
    have HL := Lib.hid hli
    have HB := Lib.hid hbel
    have HLT := Lib.hid hli.lt
    have hHB := hbel.size
    have hfN : 0 ≤ (fs.length : Int) * (N : Int) ∧ (fs.length : Int) * (N : Int) ≤ 1000000000 * 1000000000 := ⟨Int.mul_nonneg (by omega) (by omega), Int.mul_le_mul (by omega) (by omega) (by omega) (by omega)⟩
    obtain ⟨hfN0, hfN1⟩ := hfN
    have HNL : Hid (((spread s fs N).length : Int) = (fs.length : Int) * N) := Lib.hid (by rw [spread_len]; simp; rw [Int.mul_comm])
    clear hfr hN hli hbel HPP HFI
    by_cases hbig : 1000 < (fs.length : Int) * (N : Int)
    · have HR : Hid (RoS a p k [] 8) := Lib.hid (HRO.out _ _ _ HIS.out (.inr ⟨by have := HNL.out; omega, rfl, rfl⟩))
      have hB2 := HB.out
      have HB3 := Lib.hid hB2
      clear hB2
      go_wp2
      go_ret2
      exact ⟨⟨none, 0, [], 8, rfl, HR.out, LI.nil_ _ _⟩, HB3.out⟩
    · have hNL2 : N * fs.length ≤ 1000 := by
        have : ((N * fs.length : Nat) : Int) ≤ 1000 := by simp; rw [Int.mul_comm]; omega
        omega
      clear hfN1
      go_wp2
      clear hN2
      go_loopg [12, 13] N (fun gg t12 t13 wr => ∃ (i : Nat) (fm : Int) (A3 : Option Addr) (c3 : Nat) (ys : List Int), (i ≤ N ∧ N - i ≤ gg ∧ fm = s * (i : Int) ∧ ys = spread s fs i ∧ LI wo.heap.size wr A3 c3 ys ∧ Below wo.heap.size wo wr) ∧ t12 = .slice A3 ys.length c3 ∧ t13 = .int .i64 fm)
      case atStart => exact ⟨0, 0, none, 0, [], ⟨Nat.zero_le _, by omega, by simp, by simp [spread], LI.nil_ _ _, Below.refl _ _⟩, rfl, rfl⟩
      case round =>
        obtain ⟨i, fm, A3, c3, ys, ⟨hiN, hg, hfm, hys, hli2, hbel2⟩, rfl, rfl⟩ := hrel
        obtain ⟨wi, rfl⟩ : ∃ wi : World, wi = wr := ⟨_, rfl⟩
        have HFM := Lib.hid hfm
        have HYS0 := Lib.hid hys
        have HO1 := Lib.hid hli2
        have HBI := Lib.hid hbel2
        have hfm0 : 0 ≤ fm := by rw [hfm]; exact Int.mul_nonneg (by omega) (by omega)
        have hyl0 : ys.length = i * fs.length := by rw [hys, spread_len]
        have hyl : ys.length ≤ N * fs.length := by rw [hyl0]; exact Nat.mul_le_mul_right _ hiN
        clear hfm hys hli2 hbel2 hyl0
        by_cases hin : i < N
        · have hfq : fm + s ≤ q := by
            rw [HFM.out, HN.out]
            have : s * ((i : Int) + 1) ≤ s * (N : Int) := Int.mul_le_mul_of_nonneg_left (by omega) (by omega)
            rw [Int.mul_add, Int.mul_one] at this; exact this
          have hfq2 : fm < q := by omega
          go_wp2
          go_loopg [12, 50] fs.length (fun gg t12 t50 wi2 => ∃ (jj : Nat) (A3 : Option Addr) (c3 : Nat) (ys : List Int), (jj ≤ fs.length ∧ fs.length - jj ≤ gg ∧ ys = spread s fs i ++ (fs.take jj).map (fm + ·) ∧ LI wo.heap.size wi2 A3 c3 ys ∧ Below wo.heap.size wo wi2) ∧ t12 = .slice A3 ys.length c3 ∧ t50 = .int .i64 jj)
          case atStart => exact ⟨0, A3, c3, ys, ⟨Nat.zero_le _, by omega, by simpa using HYS0.out, HO1.out, HBI.out⟩, rfl, rfl⟩
          case round =>
            clear HYS0 HO1 HBI
            obtain ⟨jj, A3, c3, ys, ⟨hjf, hg2, hys, hli2, hbel2⟩, rfl, rfl⟩ := hrel
            obtain ⟨wi, rfl⟩ : ∃ wi : World, wi = wr := ⟨_, rfl⟩
            have HYS := Lib.hid hys
            have HO := Lib.hid hli2
            have HBI2 := Lib.hid hbel2
            have hyl2 : ys.length = i * fs.length + jj := by rw [hys, List.length_append, spread_len]; simp; omega
            have hyl3 : ys.length ≤ 2000 := by
              have : i * fs.length ≤ N * fs.length := Nat.mul_le_mul_right _ hiN
              have h6 : 1 * fs.length ≤ N * fs.length := Nat.mul_le_mul_right _ (by omega)
              omega
            clear hys hli2 hbel2 hyl2
            by_cases hjl : jj < fs.length
            · obtain ⟨b, x, rfl, EX, hcell, hb1, hb2⟩ := (HL.out.below HBI2.out HLT.out).at_ hjl
              have hx := HZ.out x (by rw [← EX.out]; exact List.getElem_mem hjl)
              obtain ⟨hx0, hx1⟩ := hx
              have HYN : Hid (ys ++ [fm + x] = spread s fs i ++ (fs.take (jj + 1)).map (fm + ·)) := Lib.hid (by
                rw [HYS.out, List.append_assoc, List.take_succ_eq_append_getElem hjl, List.map_append, EX.out]; simp)
              go_wp2_with (at_builtin; refine wpList_append_own _ rfl _ _ 74 rfl wo.heap.size 3 i0 (.int .i64 0) 1 8 Try.underlying74 hi hz0 hz1 hz2 rfl (by decide) _ _ _ rfl (HO.out.alloc _) ⟨wi.heap.size, 0, none⟩ 1 1 [.int .i64 (fm + x)] rfl rfl (new_one _ _ _ _ rfl) (by intro u hu; simp at hu; subst hu; rfl) (by unfold maxLen; omega) (by omega) (by have := HBI2.out.size; simp; omega) ?_)
              intro v2 w2 hown2 hgrow2 _
              have hbel3 : Below wo.heap.size wo w2 := (HBI2.out.alloc HBI2.out.size _).grown hgrow2 (by have := HBI2.out.size; simp; omega) (fun j hj => HO.out.lt_own j hj)
              have hown3 : w2.ownsRow wo.heap.size 3 1 v2 (ys ++ [fm + x]).length (ivs (ys ++ [fm + x])) := by
                rw [ivs_append, List.length_append]; exact hown2
              obtain ⟨A4, c4, rfl, hli4⟩ := LI.of hown3
              have HO4 := Lib.hid hli4
              have HB4 := Lib.hid hbel3
              clear hown2 hgrow2 hown3 hbel3 hli4 HO HBI2
              go_wp2
              go_roundg (fs.length - (jj + 1))
              case rel => exact ⟨jj + 1, A4, c4, ys ++ [fm + x], ⟨by omega, by omega, HYN.out, HO4.out, HB4.out⟩, rfl, by go_num⟩
              case measure => omega
            · have hjj : jj = fs.length := by omega
              subst hjj
              have HYN : Hid (ys = spread s fs (i + 1)) := Lib.hid (by rw [spread_succ, HYS.out, List.take_length, HFM.out])
              have HFN : Hid (fm + s = s * ((i + 1 : Nat) : Int)) := Lib.hid (by rw [HFM.out]; simp; rw [Int.mul_add, Int.mul_one])
              go_wp2
              go_roundg (N - (i + 1))
              case rel => exact ⟨i + 1, fm + s, A3, c3, ys, ⟨by omega, by omega, HFN.out, HYN.out, HO.out, HBI2.out⟩, rfl, by go_num⟩
              case measure => omega
        · have hiN2 : i = N := by omega
          have hfq : q ≤ fm := by rw [HFM.out, HN.out, hiN2]; exact Int.le_refl _
          have HR : Hid (RoS a p k ys 0) := Lib.hid (HRO.out _ _ _ HIS.out (.inl ⟨by have := HNL.out; omega, by rw [HYS0.out, hiN2], rfl⟩))
          subst hiN2
          go_wp2
          go_ret2
          exact ⟨⟨A3, c3, ys, 0, rfl, HR.out, HO1.out.mono hHB⟩, HB.out.trans (HBI.out.mono hHB)⟩
  · have HR : Hid (RoS a p k [] (ppE p k)) := Lib.hid (.inl ⟨he, rfl, rfl⟩)
    have HQ0 : Hid (ppQ p k = 0) := Lib.hid (by unfold ppQ; rw [if_neg he])
    have hb := pp_bd p k
    have hne : (ppE p k != 0) = true := by rw [bne_iff_ne]; exact he
    clear he
    have HPP := Lib.hid (pp_any p k w hk0 hk2)
    rw [HQ0.out] at HPP
    generalize ppE p k = ee at *
    obtain ⟨hb1, hb2⟩ := hb
    go_enter Try.func84, Try.ntmps84
    go_wp2_with (go_at_call 145; refine HPP.out.mono ?_; rintro e w2 ⟨rfl, rfl⟩)
    go_ret2
    exact ⟨⟨none, 0, [], ee, rfl, HR.out, LI.nil_ _ _⟩, Below.refl _ _⟩
end Go.Proofs.Ytcbdnnboddahkaa.He
