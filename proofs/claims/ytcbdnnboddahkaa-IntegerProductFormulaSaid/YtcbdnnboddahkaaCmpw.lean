/-
  WALKS: words compared; the sign.
-/
import Derived.Test.YtcbdnnboddahkaaTrim
namespace Go.Proofs.Ytcbdnnboddahkaa.Ws
open Go.RowKit
set_option linter.unusedVariables false
set_option maxRecDepth 100000
def cmpI (a b : Int) : Int := if a < b then -1 else if b < a then 1 else 0
theorem cmpI_refl (a : Int) : cmpI a a = 0 := by simp [cmpI]
/-- only draws have been made -/
def Dr (w w' : World) : Prop := ∃ n, w' = w.drewN n
theorem Dr.refl (w : World) : Dr w w := ⟨0, rfl⟩
theorem Dr.step {w w' : World} (h : Dr w w') (n : Nat) : Dr w (w'.drewN n) := by
  obtain ⟨m, rfl⟩ := h
  exact ⟨m + n, by rw [World.drewN_drewN]⟩
theorem Dr.below {w w' : World} (h : Dr w w') : Below w.heap.size w w' := by
  obtain ⟨m, rfl⟩ := h
  exact below_drawn (Below.refl _ _) m
theorem cmp32_any (x y : Int) (w : World) : Calls Try.prog 149 #[.int .u32 x, .int .u32 y] w fun e w' => e = .returned (.int .i64 (cmpI x y)) ∧ w' = w := by
  have e1 : ∀ z : Int, (z != z) = false := by simp
  rcases Int.lt_trichotomy x y with h | h | h
  · have h' : ¬ y < x := by omega
    go_enter Try.func149, Try.ntmps149
    go_wp2
    go_ret
    exact ⟨by simp [cmpI, h], rfl⟩
  · subst h
    go_enter Try.func149, Try.ntmps149
    go_wp2
    go_ret
    exact ⟨by simp [cmpI], rfl⟩
  · have h' : ¬ x < y := by omega
    go_enter Try.func149, Try.ntmps149
    go_wp2
    go_ret
    exact ⟨by simp [cmpI, h, h'], rfl⟩
theorem cmp64_any (x y : Int) (w : World) : Calls Try.prog 94 #[.int .i64 x, .int .i64 y] w fun e w' => e = .returned (.int .i64 (cmpI x y)) ∧ w' = w := by
  have e1 : ∀ z : Int, (z != z) = false := by simp
  rcases Int.lt_trichotomy x y with h | h | h
  · have h' : ¬ y < x := by omega
    go_enter Try.func94, Try.ntmps94
    go_wp2
    go_ret
    exact ⟨by simp [cmpI, h], rfl⟩
  · subst h
    go_enter Try.func94, Try.ntmps94
    go_wp2
    go_ret
    exact ⟨by simp [cmpI], rfl⟩
  · have h' : ¬ x < y := by omega
    go_enter Try.func94, Try.ntmps94
    go_wp2
    go_ret
    exact ⟨by simp [cmpI, h, h'], rfl⟩
def Alike (xs ys : List Nat) (k : Nat) : Prop := ∀ j, k ≤ j → j < xs.length → xs.getD j 0 = ys.getD j 0
theorem Alike.down {xs ys : List Nat} {m : Nat} (h : Alike xs ys (m + 1)) (h0 : xs.getD m 0 = ys.getD m 0) : Alike xs ys m := fun j h1 h2 => by
  rcases Nat.lt_or_ge m j with h3 | h3
  · exact h j (by omega) h2
  · have : j = m := by omega
    subst this; exact h0
theorem cmp_len (a b : Nat) (h : (W a).length ≠ (W b).length) : cmpI ((W a).length : Int) (W b).length = cmpI a b := by
  rcases Nat.lt_or_ge (W a).length (W b).length with h1 | h1
  · have := lt_of_dgs_len 4294967296 (by decide) a b h1
    simp [cmpI, h1, this]
  · have := lt_of_dgs_len 4294967296 (by decide) b a (by unfold W at h h1; omega)
    have h2 : (W b).length < (W a).length := by omega
    have h3 : ¬ (W a).length < (W b).length := by omega
    have h4 : ¬ a < b := by omega
    simp [cmpI, h2, h3, h4, this]
theorem cmp_word (a b i x y : Nat) (hl : (W a).length = (W b).length) (hi : i < (W a).length) (h : Alike (W a) (W b) (i + 1)) (hx : (W a).getD i 0 = x) (hy : (W b).getD i 0 = y) (hne : x ≠ y) : cmpI (x : Int) y = cmpI a b := by
  rcases Nat.lt_or_ge x y with h1 | h1
  · have := val_lt_of 4294967296 (W a) (W b) i hi hl (W_lt a) (by omega) (fun j hj hj2 => h j hj hj2)
    rw [val_W, val_W] at this
    simp [cmpI, h1, this]
  · have := val_lt_of 4294967296 (W b) (W a) i (by omega) hl.symm (W_lt b) (by omega) (fun j hj hj2 => (h j hj (by omega)).symm)
    rw [val_W, val_W] at this
    have h2 : y < x := by omega
    have h3 : ¬ x < y := by omega
    have h4 : ¬ a < b := by omega
    simp [cmpI, h2, h3, h4, this]
theorem cmp_same (a b : Nat) (hl : (W a).length = (W b).length) (h : Alike (W a) (W b) 0) : cmpI (a : Int) b = 0 := by
  have := ext_getD (W a) (W b) hl (fun j hj => h j (by omega) hj)
  have h2 : a = b := by rw [← val_W a, ← val_W b, this]
  rw [h2, cmpI_refl]
set_option maxHeartbeats 1000000 in
theorem cmpw_any (A C : Option Addr) (c d : Nat) (a b : Nat) (w : World) (hx : Sl w .u32 A c (W a)) (hy : Sl w .u32 C d (W b)) :
    Calls Try.prog 95 #[.slice A (W a).length c, .slice C (W b).length d] w fun e w' => e = .returned (.int .i64 (cmpI a b)) ∧ Dr w w' := by
  obtain ⟨hrx, hcx, hmx, _⟩ := hx
  obtain ⟨hry, hcy, hmy, _⟩ := hy
  have HX := Lib.hid hrx
  have HY := Lib.hid hry
  clear hrx hry
  by_cases hl : (W a).length = (W b).length
  · have hne : ((W a).length != (W b).length) = false := by simp [hl]
    have hne2 : (((W a).length : Int) != (W b).length) = false := by simp [hl]
    have HL := Lib.hid hl
    clear hl
    go_enter Try.func95, Try.ntmps95
    go_wp2
    go_loopw [5] (fun t5 wr => ∃ k : Nat, (k ≤ (W a).length ∧ Alike (W a) (W b) k ∧ Dr w wr) ∧ t5 = .int .i64 ((k : Int) - 1)) (fun t5 _ => (intOf t5 + 1).toNat)
    case atStart => exact ⟨(W a).length, ⟨Nat.le_refl _, fun j h1 h2 => by omega, Dr.refl _⟩, rfl⟩
    case round =>
      obtain ⟨k, ⟨hk, hal, hdr⟩, rfl⟩ := hrel
      have HA := Lib.hid hal
      have HD := Lib.hid hdr
      clear hal hdr
      by_cases h0 : k = 0
      · subst h0
        have HF := Lib.hid (cmp_same a b HL.out HA.out)
        go_wp2
        go_ret
        exact ⟨retk HF.out.symm, HD.out⟩
      · obtain ⟨i, rfl⟩ : ∃ i, k = i + 1 := ⟨k - 1, by omega⟩
        have hlt : i < (W a).length := by omega
        have hlt2 : i < (W b).length := by have := HL.out; omega
        obtain ⟨p, o, x, rfl, EX, hcell, hb⟩ := (HX.out.below HD.out.below).at_ hlt
        obtain ⟨p', o', y, rfl, EY, hcell', hb'⟩ := (HY.out.below HD.out.below).at_ hlt2
        clear h0
        by_cases hxy : x = y
        · have ht : ((x : Int) != y) = false := by simp [hxy]
          have HN := Lib.hid (HA.out.down (by rw [EX.out, EY.out, hxy]))
          clear hxy
          go_wp2
          go_quiet (fail)
          go_wp2
          go_roundw
          case rel => exact ⟨i, ⟨by omega, HN.out, HD.out.step _⟩, by go_num⟩
          case measure => simp [intOf]
        · have ht : ((x : Int) != y) = true := by rw [bne_iff_ne]; omega
          have HF := Lib.hid (cmp_word a b i x y HL.out hlt HA.out EX.out EY.out hxy)
          clear hxy
          go_wp2
          go_quiet (fail)
          go_wp2
          have k1 : (wr.drewN nq).cell? ⟨p, o + i, none⟩ = some (.int .u32 x) := hcell
          have k2 : (wr.drewN nq).cell? ⟨p', o' + i, none⟩ = some (.int .u32 y) := hcell'
          have HD2 := Lib.hid (HD.out.step nq)
          clear hcell hcell'
          generalize wr.drewN nq = w1 at *
          go_quiet ((go_at_call 149; exact Calls.quiet_of_same (cmp32_any _ _ _)))
          go_wp2
          go_ret
          exact ⟨retk HF.out, HD2.out.step _⟩
  · have hne : (((W a).length : Int) != (W b).length) = true := by rw [bne_iff_ne]; omega
    have HF := Lib.hid (cmp_len a b hl)
    clear hl
    go_enter Try.func95, Try.ntmps95
    go_wp2_with (go_at_call 94; refine (cmp64_any _ _ _).mono ?_; rintro e w' ⟨rfl, rfl⟩)
    go_ret
    exact ⟨retk HF.out, Dr.refl _⟩
end Go.Proofs.Ytcbdnnboddahkaa.Ws
