/-
  WALK of the law IntegerRoots.
-/
import Derived.Test.YtcbdnnboddahkaaHeE
import Derived.Test.YtcbdnnboddahkaaAwake
namespace Go.Proofs.Ytcbdnnboddahkaa.He
open Nt
open Go.RowKit
set_option linter.unusedVariables false
set_option maxRecDepth 100000
theorem RoS.same {a p k E E' : Int} {zs zs' : List Int} (h : RoS a p k zs E) (h' : RoS a p k zs' E') : zs = zs' ∧ E = E' := by
  rcases h with ⟨h0, rfl, rfl⟩ | ⟨h0, full, hf, h⟩
  · rcases h' with ⟨h0', rfl, rfl⟩ | ⟨h0', _⟩
    · exact ⟨rfl, rfl⟩
    · exact absurd h0' h0
  · rcases h' with ⟨h0', _⟩ | ⟨h0', full', hf', h'⟩
    · exact absurd h0 h0'
    · have := hf.unique hf'
      subst this
      rcases h with ⟨h1, rfl, rfl⟩ | ⟨h1, rfl, rfl⟩ <;> rcases h' with ⟨h2, rfl, rfl⟩ | ⟨h2, rfl, rfl⟩ <;> first | exact ⟨rfl, rfl⟩ | omega
theorem RoS.bd {a p k E : Int} {zs : List Int} (h : RoS a p k zs E) : zs.length ≤ 1000 ∧ 0 ≤ E ∧ E ≤ 11 := by
  have := pp_bd p k
  rcases h with ⟨h0, rfl, rfl⟩ | ⟨h0, full, hf, h⟩
  · exact ⟨by simp, this.1, this.2⟩
  · rcases h with ⟨h1, rfl, rfl⟩ | ⟨h1, rfl, rfl⟩
    · exact ⟨h1, by omega, by omega⟩
    · exact ⟨by simp, by omega, by omega⟩
set_option maxHeartbeats 2000000 in
theorem walk_roots (a p k : Int) (hk0 : -9223372036854775808 ≤ k) (hk2 : k ≤ 9223372036854775807) (w : World) :
    Calls Try.prog 17 #[.int .i64 a, .int .i64 p, .int .i64 k] w fun e w' => e = .returned (.bool true) ∧ Below w.heap.size w w' := by
  have HPP := Lib.hid (rpp_any p k w hk0 hk2)
  have HRT := Lib.hid (fun w => Roots_any a p k w hk0 hk2)
  have HRR := Lib.hid (fun w => rRoots_any a p k w hk0 hk2)
  have hb := pp_bd p k
  obtain ⟨hb1, hb2⟩ := hb
  by_cases he : ppE p k = 0
  · obtain ⟨hp2, hpm, hpr, hk1, hq, hQ⟩ := pp_ok he
    rw [he, hQ] at HPP
    have hq0 : 0 < p ^ k.toNat := Int.pow_pos (by omega)
    clear hpr hQ he hb1 hb2
    generalize p ^ k.toNat = q at *
    by_cases hbig : 3000 < q
    · go_enter Try.func17, Try.ntmps17
      go_wp2_with (go_at_call 83; refine HPP.out.mono ?_; rintro e w2 ⟨rfl, rfl⟩)
      refine (awake_any _).mono ?_
      rintro e w9 ⟨rfl, hb9⟩
      have HB9 := Lib.hid hb9
      clear hb9
      go_wp2
      go_ret
      exact ⟨rfl, HB9.out⟩
    · go_enter Try.func17, Try.ntmps17
      go_wp2_with (go_at_call 83; refine HPP.out.mono ?_; rintro e w2 ⟨rfl, rfl⟩)
      refine (HRT.out _).mono ?_
      rintro e w1 ⟨⟨A, c, zs, E, rfl, hs, hli⟩, hbel⟩
      have HS := Lib.hid hs
      have HL := Lib.hid hli
      have HB := Lib.hid hbel
      obtain ⟨e1, e2, e3⟩ := hs.bd
      clear hs hli hbel
      go_wp2_with fail
      refine (HRR.out _).mono ?_
      rintro e w2 ⟨⟨A', c', zs', E', rfl, hs, hli⟩, hbel⟩
      obtain ⟨rfl, rfl⟩ := HS.out.same hs
      have HL2 := Lib.hid hli
      have HL1 := Lib.hid (HL.out.below hbel HL.out.lt)
      have HB2 := Lib.hid (HB.out.trans (hbel.mono HB.out.size))
      clear hs hli hbel
      go_wp2_with fail
      refine (ints_any _ _ A A' c c' zs w2 HL1.out HL2.out (by omega)).mono ?_
      rintro e w3 ⟨rfl, hbel⟩
      have HB3 := Lib.hid (HB2.out.trans (hbel.mono HB2.out.size))
      clear hbel
      go_wp2_with fail
      refine (awake_any _).mono ?_
      rintro e w9 ⟨rfl, hb9⟩
      have HB9 := Lib.hid (HB3.out.trans (hb9.mono HB3.out.size))
      clear hb9
      go_wp2
      go_ret
      exact ⟨rfl, HB9.out⟩
  · have hne : (ppE p k != 0) = true := by rw [bne_iff_ne]; exact he
    have hneq : (ppE p k == 0) = false := by rw [beq_eq_false_iff_ne]; exact he
    have HS0 : Hid (RoS a p k [] (ppE p k)) := Lib.hid (.inl ⟨he, rfl, rfl⟩)
    have HQ0 : Hid (ppQ p k = 0) := Lib.hid (by unfold ppQ; rw [if_neg he])
    rw [HQ0.out] at HPP
    clear he
    generalize ppE p k = ee at *
    go_enter Try.func17, Try.ntmps17
    go_wp2_with (go_at_call 83; refine HPP.out.mono ?_; rintro e w2 ⟨rfl, rfl⟩)
    refine (HRT.out _).mono ?_
    rintro e w1 ⟨⟨A, c, zs, E, rfl, hs, hli⟩, hbel⟩
    obtain ⟨rfl, rfl⟩ := HS0.out.same hs
    have HB := Lib.hid hbel
    clear hs hli hbel
    go_wp2_with fail
    refine (awake_any _).mono ?_
    rintro e w9 ⟨rfl, hb9⟩
    have HB9 := Lib.hid (HB.out.trans (hb9.mono HB.out.size))
    clear hb9
    go_wp2
    go_ret
    exact ⟨rfl, HB9.out⟩
end Go.Proofs.Ytcbdnnboddahkaa.He
