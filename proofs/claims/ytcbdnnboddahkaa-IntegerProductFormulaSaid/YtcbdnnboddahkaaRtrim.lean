/-
  WALKS of the reference: digits without the zeros at the end, compared, added, taken away.
-/
import Derived.Test.YtcbdnnboddahkaaSign
import Derived.Test.YtcbdnnboddahkaaWd
namespace Go.Proofs.Ytcbdnnboddahkaa.Ws
open Go.RowKit
set_option linter.unusedVariables false
set_option maxRecDepth 100000
theorem new_one (w : World) (u : Value) (T : TypeId) (n : Nat) (hn : n = w.heap.size) : ∀ (j : Nat) (x : Value), [u][j]? = some x → (w.alloc (.cells #[u] T)).cell? ((⟨n, 0, none⟩ : Addr).add j) = some x := by
  subst hn
  intro j x hj
  match j with
  | 0 => simp at hj; subst hj; simp [go_sem]
  | j + 1 => simp at hj
theorem new_two (w : World) (u v : Value) (T : TypeId) (n : Nat) (hn : n = w.heap.size) : ∀ (j : Nat) (x : Value), [u, v][j]? = some x → (w.alloc (.cells #[u, v] T)).cell? ((⟨n, 0, none⟩ : Addr).add j) = some x := by
  subst hn
  intro j x hj
  match j with
  | 0 => simp at hj; subst hj; simp [go_sem]
  | 1 => simp at hj; subst hj; simp [go_sem]
  | j + 2 => simp at hj
set_option maxHeartbeats 1000000 in
theorem rtrim_list (A : Option Addr) (c : Nat) (xs : List Nat) (w : World) (h : Sl w .i64 A c xs) (hlen : xs.length ≤ 4294967296) :
    Calls Try.prog 108 #[.slice A xs.length c] w fun e w' => SlOut w .i64 (trimL xs) e w' := by
  obtain ⟨i0, hi, hz0, hz1, hz2⟩ := info_parts infoI
  have hlc := h.le
  have hmx := h.max
  rcases A with _ | ad
  · have hn := h.nil rfl
    have hx : xs = [] := by
      rcases xs with _ | ⟨x, t⟩
      · rfl
      · obtain ⟨b, o, e, _⟩ := h.rd (by simp); cases e
    subst hn hx
    clear h
    go_enter Try.func108, Try.ntmps108
    go_wp2
    refine wp_loop_rounds 1 ?_
    rw [rounds_succ]
    go_wp2_with (at_builtin; refine wpList_append_own_none rfl _ _ 74 rfl w.heap.size 3 i0 1 Try.underlying74 hi _ 0 [] rfl (World.ownsRow_made w #[] 0 (Nat.le_refl _) (Nat.zero_le _) rfl) rfl ?_)
    go_ret
    exact ⟨_, 0, rfl, ⟨Rd.nil_, by simp [trimL], by omega, fun _ => rfl⟩, (Below.refl _ _).alloc (Nat.le_refl _) _⟩
  · have HR := Lib.hid h
    clear h
    go_enter Try.func108, Try.ntmps108
    go_wp2
    go_loop [3] (fun n => ∃ k : Nat, TrimInv xs k ∧ n = .int .i64 k) (fun n => (intOf n).toNat)
    case atStart => exact ⟨xs.length, ⟨Nat.le_refl _, fun j h1 h2 => by omega⟩, rfl⟩
    case round =>
      obtain ⟨k, hk, rfl⟩ := hrel
      have HK := Lib.hid hk
      have hkl := hk.1
      clear hk
      by_cases hgo : 0 < k ∧ xs.getD (k - 1) 0 = 0
      · obtain ⟨h0, hx0⟩ := hgo
        obtain ⟨m, rfl⟩ : ∃ m, k = m + 1 := ⟨k - 1, by omega⟩
        obtain ⟨b, o, x, e, HX, hcell, hb⟩ := HR.out.rd.at_ (j := m) (by omega)
        injection e with e
        subst e
        have hxx : x = 0 := by rw [← HX.out]; simpa using hx0
        subst hxx
        have HD := Lib.hid (HK.out.down HX.out)
        clear hx0
        go_wp2
        go_round
        case rel => exact ⟨m, HD.out, by go_num⟩
        case measure => simp [intOf]
      · have HF := Lib.hid (trimL_found xs k hkl HK.out.2 (by
          rcases Nat.eq_zero_or_pos k with h | h
          · exact .inl h
          · exact .inr (fun h2 => hgo ⟨h, h2⟩)))
        have hlt : (trimL xs).length = k := by rw [HF.out, List.length_take, Nat.min_eq_left hkl]
        have HS : Hid (Sl w .i64 (some ad) c (trimL xs)) := Lib.hid (by rw [trimL_take xs]; exact HR.out.take_ _)
        have HL := Lib.hid hlt
        have hap : ∀ c' : Nat, True := fun _ => trivial
        by_cases h0 : k = 0
        · subst h0
          clear hlt hap hgo
          go_wp2_with (at_builtin; refine wpList_append_own _ rfl _ _ 74 rfl w.heap.size 3 i0 (.int .i64 0) 1 8 Try.underlying74 hi hz0 hz1 hz2 rfl (by decide) _ 0 [] rfl (World.ownsRow_made w #[] 0 (Nat.le_refl _) (Nat.zero_le _) rfl) ad 0 c (vals .i64 (trimL xs)) rfl (by rw [vals_length, HL.out]) (HS.out.alloc _).rd.cells (vals_one _ _) (by unfold maxLen; omega) (by omega) (by simp) ?_)
          intro v1 w1 hown hgrow _
          have hbel : Below w.heap.size w w1 := ((Below.refl _ _).alloc (Nat.le_refl _) _).grown hgrow (by simp) (by simp [Value.ownBlock])
          obtain ⟨A1, c1, rfl, -, hs⟩ := own_sl (k := .i64) (xs := trimL xs) hown
          have HQ := Lib.hid hs
          have HB := Lib.hid hbel
          clear hown hgrow hs hbel
          go_wp2
          go_ret
          exact ⟨A1, c1, rfl, HQ.out, HB.out⟩
        · obtain ⟨m, rfl⟩ : ∃ m, k = m + 1 := ⟨k - 1, by omega⟩
          obtain ⟨b, o, x, e, HX, hcell, hb⟩ := HR.out.rd.at_ (j := m) (by omega)
          injection e with e
          subst e
          have hxx : ((x : Int) == 0) = false := by
            have : x ≠ 0 := fun h2 => hgo ⟨by omega, by rw [Nat.add_sub_cancel, HX.out]; exact h2⟩
            simp; omega
          clear hlt hap hgo h0
          go_wp2_with (at_builtin; refine wpList_append_own _ rfl _ _ 74 rfl w.heap.size 3 i0 (.int .i64 0) 1 8 Try.underlying74 hi hz0 hz1 hz2 rfl (by decide) _ 0 [] rfl (World.ownsRow_made w #[] 0 (Nat.le_refl _) (Nat.zero_le _) rfl) ⟨b, o, none⟩ (m + 1) c (vals .i64 (trimL xs)) rfl (by rw [vals_length, HL.out]; omega) (HS.out.alloc _).rd.cells (vals_one _ _) (by unfold maxLen; omega) (by omega) (by simp) ?_)
          intro v1 w1 hown hgrow _
          have hbel : Below w.heap.size w w1 := ((Below.refl _ _).alloc (Nat.le_refl _) _).grown hgrow (by simp) (by simp [Value.ownBlock])
          obtain ⟨A1, c1, rfl, -, hs⟩ := own_sl (k := .i64) (xs := trimL xs) hown
          have HQ := Lib.hid hs
          have HB := Lib.hid hbel
          clear hown hgrow hs hbel
          go_wp2
          go_ret
          exact ⟨A1, c1, rfl, HQ.out, HB.out⟩
theorem rtrim_any (A : Option Addr) (c : Nat) (xs : List Nat) (w : World) (n : Nat) (h : Sl w .i64 A c xs) (hlen : xs.length ≤ 4294967296) (hb : ∀ x ∈ xs, x < 65536) (hv : val 65536 xs = n) :
    Calls Try.prog 108 #[.slice A xs.length c] w fun e w' => SlOut w .i64 (D n) e w' := by
  have := rtrim_list A c xs w h hlen
  rw [trim_D hb, hv] at this
  exact this
end Go.Proofs.Ytcbdnnboddahkaa.Ws
