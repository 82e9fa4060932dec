/-
  WALKS: words without the zeros at the end; two lists compared.
-/
import Derived.Test.YtcbdnnboddahkaaChecked
import Derived.Test.YtcbdnnboddahkaaMem
import Derived.RegionTactic
import Derived.ChangeAlike
namespace Go.Proofs.Ytcbdnnboddahkaa.Ws
open Go.RowKit
set_option linter.unusedVariables false
set_option maxRecDepth 100000
def TrimInv (xs : List Nat) (k : Nat) : Prop := k ≤ xs.length ∧ ∀ j, k ≤ j → j < xs.length → xs.getD j 0 = 0
theorem TrimInv.down {xs : List Nat} {m : Nat} (h : TrimInv xs (m + 1)) (h0 : xs.getD m 0 = 0) : TrimInv xs m :=
  ⟨by have := h.1; omega, fun j h1 h2 => by
    rcases Nat.lt_or_ge m j with h3 | h3
    · exact h.2 j (by omega) h2
    · have : j = m := by omega
      subst this; exact h0⟩
set_option maxHeartbeats 400000 in
theorem trim_any (A : Option Addr) (c : Nat) (xs : List Nat) (w : World) (h : Sl w .u32 A c xs) :
    Calls Try.prog 88 #[.slice A xs.length c] w fun e w' => e = .returned (.slice A (trimL xs).length c) ∧ w = w' := by
  obtain ⟨hr, hc, hm, hn⟩ := h
  have HR := Lib.hid hr
  clear hr hn
  go_enter Try.func88, Try.ntmps88
  go_wp2
  go_loop [3] (fun n => ∃ k : Nat, TrimInv xs k ∧ n = .int .i64 k) (fun n => (intOf n).toNat)
  case atStart => exact ⟨xs.length, ⟨Nat.le_refl _, fun j h1 h2 => by omega⟩, rfl⟩
  case round =>
    obtain ⟨k, hk, rfl⟩ := hrel
    have HK := Lib.hid hk
    have hkl := hk.1
    clear hk
    by_cases h0 : k = 0
    · subst h0
      have HF := Lib.hid (trimL_found xs 0 (by omega) HK.out.2 (.inl rfl))
      go_wp2
      go_ret
      exact ⟨by rw [HF.out]; simp, rfl⟩
    · obtain ⟨m, rfl⟩ : ∃ m, k = m + 1 := ⟨k - 1, by omega⟩
      obtain ⟨b, o, x, rfl, HX, hcell, hb⟩ := HR.out.at_ (j := m) (by omega)
      clear h0
      by_cases hx : x = 0
      · subst hx
        have HD := Lib.hid (HK.out.down HX.out)
        go_wp2
        go_round
        case rel => exact ⟨m, HD.out, by go_num⟩
        case measure => simp [intOf]
      · have ht : ((x : Int) == 0) = false := by simp; omega
        have HF := Lib.hid (trimL_found xs (m + 1) hkl HK.out.2 (.inr (by rw [Nat.add_sub_cancel, HX.out]; exact hx)))
        go_wp2
        go_ret
        exact ⟨by rw [HF.out, List.length_take, Nat.min_eq_left hkl]; rfl, rfl⟩
end Go.Proofs.Ytcbdnnboddahkaa.Ws
