/-
  WALKS: the reference's Roots; two lists of integers compared.
-/
import Derived.Test.YtcbdnnboddahkaaHeD
import Derived.Test.YtcbdnnboddahkaaHe4
namespace Go.Proofs.Ytcbdnnboddahkaa.He
open Nt
open Go.RowKit
open Ws (new_one infoI below_drawn)
set_option linter.unusedVariables false
set_option linter.unusedSimpArgs false
set_option maxRecDepth 100000
theorem IsRts.unique {u q : Int} : ∀ {xs ys : List Int}, IsRts u q xs → IsRts u q ys → xs = ys := by
  have key : ∀ {xs ys : List Int}, xs.Pairwise (· < ·) → ys.Pairwise (· < ·) → (∀ x, x ∈ xs ↔ x ∈ ys) → xs = ys := by
    intro xs
    induction xs with
    | nil =>
      intro ys _ _ h
      cases ys with
      | nil => rfl
      | cons b t => have := (h b).2 (by simp); cases this
    | cons a s ih =>
      intro ys hx hy h
      cases ys with
      | nil => have := (h a).1 (by simp); cases this
      | cons b t =>
        obtain ⟨hx1, hx2⟩ := List.pairwise_cons.1 hx
        obtain ⟨hy1, hy2⟩ := List.pairwise_cons.1 hy
        have hab : a = b := by
          have h1 := (h a).1 (by simp)
          have h2 := (h b).2 (by simp)
          rcases List.mem_cons.1 h1 with h3 | h3
          · exact h3
          · rcases List.mem_cons.1 h2 with h4 | h4
            · exact h4.symm
            · have := hy1 a h3; have := hx1 b h4; omega
        subst hab
        congr 1
        refine ih hx2 hy2 fun x => ?_
        constructor
        · intro hm
          rcases List.mem_cons.1 ((h x).1 (by simp [hm])) with h3 | h3
          · have := hx1 x hm; omega
          · exact h3
        · intro hm
          rcases List.mem_cons.1 ((h x).2 (by simp [hm])) with h3 | h3
          · have := hy1 x hm; omega
          · exact h3
  intro xs ys h1 h2
  exact key h1.1 h2.1 fun x => (h1.2 x).trans (h2.2 x).symm
def rt (a q : Int) (n : Nat) : List Int := ((List.range n).map fun (i : Nat) => (i : Int)).filter fun x => x * x % q == a % q
theorem rt_succ (a q : Int) (n : Nat) : rt a q (n + 1) = rt a q n ++ (if ((n : Int) * n % q == a % q) = true then [(n : Int)] else []) := by
  unfold rt
  rw [List.range_succ, List.map_append, List.filter_append]
  congr 1
  simp [List.filter_cons]
theorem rt_len (a q : Int) (n : Nat) : (rt a q n).length ≤ n := by
  unfold rt
  refine Nat.le_trans (List.length_filter_le _ _) (by simp)
theorem rt_rts {a q : Int} {n : Nat} (h : (n : Int) = q) : IsRts a q (rt a q n) := by
  unfold rt
  refine ⟨?_, fun x => ?_⟩
  · refine List.Pairwise.filter _ ?_
    rw [List.pairwise_map]
    exact List.pairwise_lt_range.imp (by intro a b h; omega)
  · rw [List.mem_filter, List.mem_map]
    constructor
    · rintro ⟨⟨i, hi, rfl⟩, h2⟩
      have := List.mem_range.1 hi
      exact ⟨by omega, by omega, emod_eq_dvd (by simpa using h2)⟩
    · rintro ⟨h1, h2, h3⟩
      exact ⟨⟨x.toNat, List.mem_range.2 (by omega), by omega⟩, by simpa using dvd_emod_eq h3⟩
set_option maxHeartbeats 4000000 in
theorem rRoots_any (a p k : Int) (w : World) (hk0 : -9223372036854775808 ≤ k) (hk2 : k ≤ 9223372036854775807) :
    Calls Try.prog 85 #[.int .i64 a, .int .i64 p, .int .i64 k] w fun e w' => RoOut w a p k e w' := by
  by_cases he : ppE p k = 0
  · obtain ⟨i0, hi, hz0, hz1, hz2⟩ := info_parts infoI
    obtain ⟨hp2, hpm, hpr, hk1, hq, hQ⟩ := pp_ok he
    have hq0 : 0 < p ^ k.toNat := Int.pow_pos (by omega)
    have HPP : Hid (Calls Try.prog 83 #[.int .i64 p, .int .i64 k] w fun e w' => e = .returned (.tuple #[.int .i64 (p ^ k.toNat), .int .i64 0]) ∧ w = w') := Lib.hid (by
      have h := rpp_any p k w hk0 hk2
      rw [hQ, he] at h; exact h)
    have ha1 := Int.emod_nonneg a (b := p ^ k.toNat) (by omega)
    have ha2 := Int.emod_lt_of_pos a hq0
    have HRO : Hid (∀ zs E full, IsRts a (p ^ k.toNat) full → ((full.length ≤ 1000 ∧ zs = full ∧ E = 0) ∨ (1000 < full.length ∧ zs = [] ∧ E = 8)) → RoS a p k zs E) := Lib.hid (fun zs E full hf h => .inr ⟨he, full, hf, h⟩)
    clear hpr hQ he
    generalize p ^ k.toNat = q at *
    have HRT : Hid (∀ n : Nat, (n : Int) = q → IsRts a q (rt a q n)) := Lib.hid (fun n h => rt_rts h)
    go_enter Try.func85, Try.ntmps85
    go_wp2_with (go_at_call 83; refine HPP.out.mono ?_; rintro e w2 ⟨rfl, rfl⟩)
    go_loopg [10, 11] q.toNat (fun gg t10 t11 wr => ∃ (i : Nat) (A3 : Option Addr) (c3 : Nat) (ys : List Int), (i ≤ q.toNat ∧ q.toNat - i ≤ gg ∧ ys = rt a q i ∧ LI w.heap.size wr A3 c3 ys ∧ Below w.heap.size w wr) ∧ t10 = .slice A3 ys.length c3 ∧ t11 = .int .i64 i)
    case atStart => exact ⟨0, none, 0, [], ⟨Nat.zero_le _, by omega, by simp [rt], LI.nil_ _ _, Below.refl _ _⟩, rfl, rfl⟩
    case round =>
      obtain ⟨i, A3, c3, ys, ⟨hiq, hg, hys, hli, hbel⟩, rfl, rfl⟩ := hrel
      obtain ⟨wi, rfl⟩ : ∃ wi : World, wi = wr := ⟨_, rfl⟩
      have hyl : ys.length ≤ i := by rw [hys]; exact rt_len _ _ _
      have HYS := Lib.hid hys
      have HO := Lib.hid hli
      have HB := Lib.hid hbel
      clear hys hli hbel
      by_cases hlt : (i : Int) < q
      · have hii : 0 ≤ (i : Int) * i ∧ (i : Int) * i ≤ 1000000000 * 1000000000 := ⟨Int.mul_nonneg (by omega) (by omega), Int.mul_le_mul (by omega) (by omega) (by omega) (by omega)⟩
        obtain ⟨hii1, hii2⟩ := hii
        have htm : ((i : Int) * i).tmod q = ((i : Int) * i) % q := Int.tmod_eq_emod_of_nonneg hii1
        have hq9 : q ≤ 9223372036854775807 := by omega
        have hq1 : 1 ≤ q := by omega
        cases hz : ((i : Int) * i % q == a % q) with
        | true =>
          have HYN : Hid (ys ++ [(i : Int)] = rt a q (i + 1)) := Lib.hid (by rw [rt_succ, hz, if_pos rfl, HYS.out])
          go_wp2
          have hw2 : IntKind.i64.wrap ((i : Int) * i) = (i : Int) * i := IntWalk.i64_in _ (by omega)
          go_quiet ((go_at_call 120; exact Cn.quietE (rmod_any _ _ _ hq1 hq9)))
          clear hw2 htm hz
          have HO2 : Hid (LI w.heap.size (wi.drewN nq) A3 c3 ys) := Lib.hid HO.out
          have HB2 : Hid (Below w.heap.size w (wi.drewN nq)) := Lib.hid (below_drawn HB.out nq)
          clear HO HB
          generalize wi.drewN nq = wj at *
          go_wp2_with (at_builtin; refine wpList_append_own _ rfl _ _ 74 rfl w.heap.size 3 i0 (.int .i64 0) 1 8 Try.underlying74 hi hz0 hz1 hz2 rfl (by decide) _ _ _ rfl (HO2.out.alloc _) ⟨wj.heap.size, 0, none⟩ 1 1 [.int .i64 (i : Int)] rfl rfl (new_one _ _ _ _ rfl) (by intro u hu; simp at hu; subst hu; rfl) (by unfold maxLen; omega) (by omega) (by have := HB2.out.size; simp; omega) ?_)
          intro v2 w2 hown2 hgrow2 _
          have hbel3 : Below w.heap.size w w2 := (HB2.out.alloc HB2.out.size _).grown hgrow2 (by have := HB2.out.size; simp; omega) (fun j hj => HO2.out.lt_own j hj)
          have hown3 : w2.ownsRow w.heap.size 3 1 v2 (ys ++ [(i : Int)]).length (ivs (ys ++ [(i : Int)])) := by
            rw [ivs_append, List.length_append]; exact hown2
          obtain ⟨A4, c4, rfl, hli4⟩ := LI.of hown3
          have HO4 := Lib.hid hli4
          have HB4 := Lib.hid hbel3
          clear hown2 hgrow2 hown3 hbel3 hli4 HO2 HB2
          go_wp2
          go_roundg (q.toNat - (i + 1))
          case rel => exact ⟨i + 1, A4, c4, ys ++ [(i : Int)], ⟨by omega, by omega, HYN.out, HO4.out, HB4.out⟩, rfl, by go_num⟩
          case measure => omega
        | false =>
          have HYN : Hid (ys = rt a q (i + 1)) := Lib.hid (by rw [rt_succ, hz, if_neg (by simp), List.append_nil, HYS.out])
          go_wp2
          have hw2 : IntKind.i64.wrap ((i : Int) * i) = (i : Int) * i := IntWalk.i64_in _ (by omega)
          go_quiet ((go_at_call 120; exact Cn.quietE (rmod_any _ _ _ hq1 hq9)))
          clear hw2 htm hz
          have HO2 : Hid (LI w.heap.size (wi.drewN nq) A3 c3 ys) := Lib.hid HO.out
          have HB2 : Hid (Below w.heap.size w (wi.drewN nq)) := Lib.hid (below_drawn HB.out nq)
          go_wp2
          go_roundg (q.toNat - (i + 1))
          case rel => exact ⟨i + 1, A3, c3, ys, ⟨by omega, by omega, HYN.out, HO2.out, HB2.out⟩, rfl, by go_num⟩
          case measure => omega
      · have hiq2 : (i : Int) = q := by omega
        have HIS := Lib.hid (HRT.out i hiq2)
        by_cases hbig : 1000 < ys.length
        · have HR : Hid (RoS a p k [] 8) := Lib.hid (HRO.out _ _ _ HIS.out (.inr ⟨by rw [← HYS.out]; exact hbig, rfl, rfl⟩))
          clear hiq2
          go_wp2
          go_ret2
          exact ⟨⟨none, 0, [], 8, rfl, HR.out, LI.nil_ _ _⟩, HB.out⟩
        · have HR : Hid (RoS a p k ys 0) := Lib.hid (HRO.out _ _ _ HIS.out (.inl ⟨by rw [← HYS.out]; omega, HYS.out, rfl⟩))
          clear hiq2
          go_wp2
          go_ret2
          exact ⟨⟨A3, c3, ys, 0, rfl, HR.out, HO.out⟩, HB.out⟩
  · have HR : Hid (RoS a p k [] (ppE p k)) := Lib.hid (.inl ⟨he, rfl, rfl⟩)
    have HQ0 : Hid (ppQ p k = 0) := Lib.hid (by unfold ppQ; rw [if_neg he])
    have hb := pp_bd p k
    have hne : (ppE p k != 0) = true := by rw [bne_iff_ne]; exact he
    clear he
    have HPP := Lib.hid (rpp_any p k w hk0 hk2)
    rw [HQ0.out] at HPP
    generalize ppE p k = ee at *
    obtain ⟨hb1, hb2⟩ := hb
    go_enter Try.func85, Try.ntmps85
    go_wp2_with (go_at_call 83; refine HPP.out.mono ?_; rintro e w2 ⟨rfl, rfl⟩)
    go_ret2
    exact ⟨⟨none, 0, [], ee, rfl, HR.out, LI.nil_ _ _⟩, Below.refl _ _⟩
set_option maxHeartbeats 1000000 in
theorem ints_any (B B' : Nat) (A C : Option Addr) (c d : Nat) (zs : List Int) (w : World) (h : LI B w A c zs) (h' : LI B' w C d zs) (hl : zs.length ≤ 1000000) :
    Calls Try.prog 81 #[.slice A zs.length c, .slice C zs.length d] w fun e w' => e = .returned (.bool true) ∧ Below w.heap.size w w' := by
  have HX := Lib.hid h
  have HY := Lib.hid h'
  have HLX := Lib.hid h.lt
  have HLY := Lib.hid h'.lt
  clear h h'
  go_enter Try.func81, Try.ntmps81
  go_wp2
  go_loopg [5] zs.length (fun gg t5 wr => ∃ (i : Nat), (i ≤ zs.length ∧ zs.length - i ≤ gg ∧ Below w.heap.size w wr) ∧ t5 = .int .i64 i)
  case atStart => exact ⟨0, ⟨Nat.zero_le _, by omega, Below.refl _ _⟩, rfl⟩
  case round =>
    obtain ⟨i, ⟨hi, hg, hbel⟩, rfl⟩ := hrel
    obtain ⟨wi, rfl⟩ : ∃ wi : World, wi = wr := ⟨_, rfl⟩
    have HB := Lib.hid hbel
    clear hbel
    by_cases hlt : i < zs.length
    · obtain ⟨b, x, rfl, EX, hcell, hb1, hb2⟩ := (HX.out.below HB.out HLX.out).at_ hlt
      obtain ⟨b', x', rfl, EY, hcell', hb1', hb2'⟩ := (HY.out.below HB.out HLY.out).at_ hlt
      obtain rfl : x = x' := by rw [← EX.out, ← EY.out]
      go_wp2
      go_quiet (fail)
      have HB2 : Hid (Below w.heap.size w (wi.drewN nq)) := Lib.hid (below_drawn HB.out nq)
      go_wp2
      go_roundg (zs.length - (i + 1))
      case rel => exact ⟨i + 1, ⟨by omega, by omega, HB2.out⟩, by go_num⟩
      case measure => omega
    · have hil : i = zs.length := by omega
      subst hil
      go_wp2
      go_ret
      exact ⟨rfl, HB.out⟩
end Go.Proofs.Ytcbdnnboddahkaa.He
