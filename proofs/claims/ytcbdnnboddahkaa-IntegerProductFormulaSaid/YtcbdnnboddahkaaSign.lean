/-
  WALKS: an integer is signed; its sign; a copy of words.
-/
import Derived.Test.YtcbdnnboddahkaaCmpw
import Derived.Test.YtcbdnnboddahkaaMul
import Derived.Laws.AppendOwnNone
import Derived.WalkSpells
import Derived.Handy
namespace Go.Proofs.Ytcbdnnboddahkaa.Ws
open Go.RowKit
set_option linter.unusedVariables false
set_option maxRecDepth 100000
/-- the value of an integer of words -/
def iv (neg : Bool) (xs : List Nat) : Int := if neg then -(val 4294967296 xs : Int) else (val 4294967296 xs : Int)
theorem iv_natAbs (neg : Bool) (xs : List Nat) : (iv neg xs).natAbs = val 4294967296 xs := by cases neg <;> simp [iv]
theorem iv_false (xs : List Nat) : iv false xs = (val 4294967296 xs : Int) := rfl
theorem iv_true (xs : List Nat) : iv true xs = -(val 4294967296 xs : Int) := rfl
theorem iv_neg (neg : Bool) (xs : List Nat) (h : 0 < val 4294967296 xs) : decide (iv neg xs < 0) = neg := by cases neg <;> simp [iv] <;> omega
/-- a result that is an integer of words, in normal form -/
def IntIs (w : World) (z : Int) (v : Value) : Prop := ∃ A c, v = .agg #[.bool (decide (z < 0)), .slice A (W z.natAbs).length c] ∧ Sl w .u32 A c (W z.natAbs)
def IntOut (w : World) (z : Int) (e : Ending) (w' : World) : Prop := ∃ v, e = .returned v ∧ IntIs w' z v ∧ Below w.heap.size w w'
theorem IntIs.below {w w' : World} {z : Int} {v : Value} (h : IntIs w z v) (hb : Below w.heap.size w w') : IntIs w' z v := by
  obtain ⟨A, c, rfl, hs⟩ := h
  exact ⟨A, c, rfl, hs.below hb⟩
/-- an argument that is an integer of words -/
structure IntIn (w : World) (neg : Bool) (A : Option Addr) (c : Nat) (xs : List Nat) : Prop where
  sl : Sl w .u32 A c xs
  lt : ∀ x ∈ xs, x < 4294967296
  len : xs.length ≤ 1000000
theorem IntIn.below {w w' : World} {neg : Bool} {A : Option Addr} {c : Nat} {xs : List Nat} (h : IntIn w neg A c xs) (hb : Below w.heap.size w w') : IntIn w' neg A c xs := ⟨h.sl.below hb, h.lt, h.len⟩
theorem IntIs.in_ {w : World} {z : Int} {v : Value} (h : IntIs w z v) (hl : (W z.natAbs).length ≤ 1000000) : ∃ neg A c xs, v = .agg #[.bool neg, .slice A xs.length c] ∧ IntIn w neg A c xs ∧ iv neg xs = z ∧ xs = W z.natAbs := by
  obtain ⟨A, c, rfl, hs⟩ := h
  refine ⟨_, A, c, _, rfl, ⟨hs, W_lt _, hl⟩, ?_, rfl⟩
  by_cases hz : z < 0
  · simp [iv, hz, val_W]; omega
  · simp [iv, hz, val_W]; omega
theorem val_pos {xs : List Nat} (hb : ∀ x ∈ xs, x < 4294967296) (h : trimL xs ≠ []) : 0 < val 4294967296 xs := by
  rcases Nat.eq_zero_or_pos (val 4294967296 xs) with h0 | h0
  · rw [trim_W hb, h0] at h; exact absurd rfl h
  · exact h0
set_option maxHeartbeats 400000 in
theorem signed_any (neg : Bool) (A : Option Addr) (c : Nat) (xs : List Nat) (w : World) (h : Sl w .u32 A c xs) (hb : ∀ x ∈ xs, x < 4294967296) :
    Calls Try.prog 90 #[.bool neg, .slice A xs.length c] w fun e w' => IntOut w (iv neg xs) e w' := by
  have hmx := h.max
  have hlc := h.le
  have htl := trimL_length xs
  have H := Lib.hid h
  have HB := Lib.hid hb
  clear h hb
  by_cases hz : (trimL xs).length = 0
  · have ht : (((trimL xs).length : Int) == 0) = true := by simp [hz]
    have hnil : trimL xs = [] := List.eq_nil_of_length_eq_zero hz
    have hv : val 4294967296 xs = 0 := by rw [← val_trimL _ (by decide) xs HB.out, hnil]; rfl
    have hi : iv neg xs = 0 := by cases neg <;> simp [iv, hv]
    have HI := Lib.hid hi
    clear hz hnil hv hi
    go_enter Try.func90, Try.ntmps90
    go_wp2_with (go_at_call 88; refine (trim_any A c xs _ (H.out.alloc _)).mono ?_; rintro e w1 ⟨rfl, rfl⟩)
    refine bodyPost_ret (v := .agg #[.bool false, .slice none 0 0]) (by simp [results, Try.results90, go_sem]) rfl ?_
    rw [HI.out]
    exact ⟨_, rfl, ⟨none, 0, rfl, Sl.nil_⟩, by go_grown⟩
  · have ht : (((trimL xs).length : Int) == 0) = false := by simp; intro h; simp [h] at hz
    have hp := val_pos HB.out (fun h => hz (by rw [h]; rfl))
    have hn := iv_neg neg xs hp
    have hW : W (iv neg xs).natAbs = trimL xs := by rw [iv_natAbs, trim_W HB.out]
    have HN := Lib.hid hn
    have HW := Lib.hid hW
    clear hz hp hn hW
    go_enter Try.func90, Try.ntmps90
    go_wp2_with (go_at_call 88; refine (trim_any A c xs _ (H.out.alloc _)).mono ?_; rintro e w1 ⟨rfl, rfl⟩)
    refine bodyPost_ret (v := .agg #[.bool neg, .slice A (trimL xs).length c]) (by simp [results, Try.results90, go_sem]) rfl ?_
    refine ⟨_, rfl, ⟨A, c, by rw [HN.out, HW.out], ?_⟩, by go_grown⟩
    rw [HW.out, trimL_take xs]
    refine (H.out.below ?_).take_ _
    go_grown
set_option maxHeartbeats 400000 in
theorem sign_any (neg : Bool) (A : Option Addr) (c : Nat) (xs : List Nat) (w : World) (h : Sl w .u32 A c xs) (hb : ∀ x ∈ xs, x < 4294967296) :
    Calls Try.prog 93 #[.agg #[.bool neg, .slice A xs.length c]] w fun e w' => e = .returned (.int .i64 (iv neg xs).sign) ∧ Below w.heap.size w w' := by
  have hmx := h.max
  have hlc := h.le
  have htl := trimL_length xs
  have H := Lib.hid h
  have HB := Lib.hid hb
  clear h hb
  by_cases hz : (trimL xs).length = 0
  · have ht : (((trimL xs).length : Int) == 0) = true := by simp [hz]
    have hnil : trimL xs = [] := List.eq_nil_of_length_eq_zero hz
    have hv : val 4294967296 xs = 0 := by rw [← val_trimL _ (by decide) xs HB.out, hnil]; rfl
    have hi : iv neg xs = 0 := by cases neg <;> simp [iv, hv]
    have HI := Lib.hid hi
    clear hz hnil hv hi
    go_enter Try.func93, Try.ntmps93
    go_wp2_with (go_at_call 88; refine (trim_any A c xs _ (H.out.alloc _)).mono ?_; rintro e w1 ⟨rfl, rfl⟩)
    go_ret
    exact ⟨retk (by rw [HI.out]; rfl), by go_grown⟩
  · have ht : (((trimL xs).length : Int) == 0) = false := by simp; intro h; simp [h] at hz
    have hp := val_pos HB.out (fun h => hz (by rw [h]; rfl))
    clear hz
    cases neg
    · have hi : (iv false xs).sign = 1 := by simp [iv, Int.sign_eq_one_iff_pos]; omega
      have HI := Lib.hid hi
      clear hi hp
      go_enter Try.func93, Try.ntmps93
      go_wp2_with (go_at_call 88; refine (trim_any A c xs _ (H.out.alloc _)).mono ?_; rintro e w1 ⟨rfl, rfl⟩)
      go_ret
      exact ⟨retk HI.out.symm, by go_grown⟩
    · have hi : (iv true xs).sign = -1 := by simp [iv]; omega
      have HI := Lib.hid hi
      clear hi hp
      go_enter Try.func93, Try.ntmps93
      go_wp2_with (go_at_call 88; refine (trim_any A c xs _ (H.out.alloc _)).mono ?_; rintro e w1 ⟨rfl, rfl⟩)
      go_ret
      exact ⟨retk HI.out.symm, by go_grown⟩
set_option maxHeartbeats 400000 in
theorem clone_any (A : Option Addr) (c : Nat) (xs : List Nat) (w : World) (h : Sl w .u32 A c xs) (hlen : xs.length ≤ 4294967296) :
    Calls Try.prog 92 #[.slice A xs.length c] w fun e w' => SlOut w .u32 xs e w' := by
  obtain ⟨i0, hi, hz0, hz1, hz2⟩ := info_parts infoW
  have hlc := h.le
  have hmx := h.max
  rcases A with _ | ad
  · have hn := h.nil rfl
    have hx : xs = [] := by
      rcases xs with _ | ⟨x, t⟩
      · rfl
      · obtain ⟨b, o, e, _⟩ := h.rd (by simp); cases e
    subst hn hx
    have heq := fun w => Lib.run_eql_slice_nil (P := Try.prog) w 22 113 none 0 0 0 0 Try.underlying22
    clear h
    go_enter Try.func92, Try.ntmps92
    go_wp2
    go_ret
    exact ⟨none, 0, rfl, Sl.nil_, Below.refl _ _⟩
  · have heq := fun w => Lib.run_eql_slice_nil (P := Try.prog) w 22 113 (some ad) xs.length c 0 0 Try.underlying22
    have H := Lib.hid h
    clear h
    go_enter Try.func92, Try.ntmps92
    go_wp2_with (at_builtin; refine wpList_append_own _ rfl _ _ 22 rfl w.heap.size 113 i0 (.int .u32 0) 1 4 Try.underlying22 hi hz0 hz1 hz2 rfl (by decide) _ 0 [] rfl (World.ownsRow_made w #[] 0 (Nat.le_refl _) (Nat.zero_le _) rfl) ad xs.length c (vals .u32 xs) rfl (by rw [vals_length]; omega) (H.out.alloc _).rd.cells (vals_one _ _) (by unfold maxLen; omega) (by omega) (by simp) ?_)
    intro v1 w1 hown hgrow _
    have hbel : Below w.heap.size w w1 := ((Below.refl _ _).alloc (Nat.le_refl _) _).grown hgrow (by simp) (by simp [Value.ownBlock])
    obtain ⟨A1, c1, rfl, -, hs⟩ := own_sl (k := .u32) (xs := xs) hown
    have HS := Lib.hid hs
    have HB := Lib.hid hbel
    clear hown hgrow hs hbel
    go_wp2
    go_ret
    exact ⟨A1, c1, rfl, HS.out, HB.out⟩
end Go.Proofs.Ytcbdnnboddahkaa.Ws
