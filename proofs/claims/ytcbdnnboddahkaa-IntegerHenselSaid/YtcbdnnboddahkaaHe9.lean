/-
  WALKS: the roots of an odd number modulo a power of 2.
-/
import Derived.Test.YtcbdnnboddahkaaHe8
import Derived.Test.YtcbdnnboddahkaaRtrim
namespace Go.Proofs.Ytcbdnnboddahkaa.He
open Nt
open Go.RowKit
open Ws (new_one infoI)
set_option linter.unusedVariables false
set_option maxRecDepth 100000
/-- a slice of integers that the call made -/
def LI (B : Nat) (w : World) (A : Option Addr) (c : Nat) (zs : List Int) : Prop := w.ownsRow B 3 1 (.slice A zs.length c) zs.length (ivs zs)
theorem LI.of {B : Nat} {w : World} {v : Value} {zs : List Int} {n : Nat} (h : w.ownsRow B 3 1 v n (ivs zs)) : ∃ A c, v = .slice A zs.length c ∧ LI B w A c zs := by
  have hn : n = zs.length := by have := h.1; rw [ivs_length] at this; omega
  subst hn
  have h' := h
  rcases h.2 with ⟨rfl, h0⟩ | ⟨g, cap, cur, rfl, hb, hg, h1, h2, h3, h4⟩
  · refine ⟨none, 0, by rw [h0], ?_⟩
    unfold LI; rw [h0]; rw [h0] at h'; exact h'
  · exact ⟨_, cap, rfl, h'⟩
theorem LI.nil_ (B : Nat) (w : World) : LI B w none 0 [] := by unfold LI; simpa [ivs] using World.ownsRow_nil _ _ _ _
theorem LI.at_ {B : Nat} {w : World} {A : Option Addr} {c : Nat} {zs : List Int} (h : LI B w A c zs) {j : Nat} (hj : j < zs.length) : ∃ b x, A = some ⟨b, 0, none⟩ ∧ Hid (zs[j] = x) ∧ w.cell? ⟨b, j, none⟩ = some (.int .i64 x) ∧ B ≤ b ∧ b < w.heap.size := by
  rcases h.2 with ⟨h0, h1⟩ | ⟨g, cap, cur, hv, hb, hg, h1, h2, h3, h4⟩
  · omega
  · injection hv with e1 e2 e3
    subst e1 e3
    refine ⟨g, zs[j], rfl, Lib.hid rfl, ?_, hb, (Array.getElem?_eq_some_iff.1 hg).1⟩
    rw [World.ownsRow.cellAt h j (by omega)]
    simp [ivs, List.getElem?_eq_getElem hj]
theorem LI.below {B B' : Nat} {w w' : World} {A : Option Addr} {c : Nat} {zs : List Int} (h : LI B w A c zs) (hb : Below B' w w') (hB : ∀ a, A = some a → a.block < B') : LI B w' A c zs := by
  refine ⟨h.1, ?_⟩
  rcases h.2 with ⟨h0, h1⟩ | ⟨g, cap, cur, hv, h5, hg, h1, h2, h3, h4⟩
  · exact .inl ⟨h0, h1⟩
  · injection hv with e1 e2 e3
    subst e1 e3
    exact .inr ⟨g, c, cur, rfl, h5, (hb.block g (hB _ rfl)).trans hg, h1, h2, h3, h4⟩
theorem LI.lt {B : Nat} {w : World} {A : Option Addr} {c : Nat} {zs : List Int} (h : LI B w A c zs) : ∀ a, A = some a → a.block < w.heap.size := by
  intro a ha
  subst ha
  rcases h.2 with ⟨h0, h1⟩ | ⟨g, cap, cur, hv, h5, hg, h1, h2, h3, h4⟩
  · cases h0
  · injection hv with e1 e2 e3
    injection e1 with e1
    subst e1
    exact (Array.getElem?_eq_some_iff.1 hg).1
theorem LI.mono {B B' : Nat} {w : World} {A : Option Addr} {c : Nat} {zs : List Int} (h : LI B w A c zs) (hB : B' ≤ B) : LI B' w A c zs := by
  refine ⟨h.1, ?_⟩
  rcases h.2 with ⟨h0, h1⟩ | ⟨g, cap, cur, hv, h5, hg, h1, h2, h3, h4⟩
  · exact .inl ⟨h0, h1⟩
  · exact .inr ⟨g, cap, cur, hv, by omega, hg, h1, h2, h3, h4⟩
theorem LI.lt_own {B n : Nat} {w : World} {A : Option Addr} {c : Nat} {zs : List Int} (h : LI B w A c zs) : ∀ j, (Value.slice A n c).ownBlock = some j → B ≤ j := by
  intro j hj
  rcases h.2 with ⟨h0, h1⟩ | ⟨g, cap, cur, hv, h5, hg, h1, h2, h3, h4⟩
  · injection h0 with e1 e2 e3
    subst e1; cases hj
  · injection hv with e1 e2 e3
    subst e1
    simp [Value.ownBlock] at hj
    omega
/-- which of r, r + m is a root modulo 2 m -/
def okR (u m x : Int) : Bool := (x * x - u).tmod (2 * m) == 0
def cand (u m r : Int) : List Int := [r, r + m].filter (okR u m)
def IR (u m : Int) (zs : List Int) : Prop := zs.Nodup ∧ ∀ x, x ∈ zs ↔ 0 ≤ x ∧ x < m ∧ m ∣ x * x - u
theorem okR_iff {u m x : Int} : okR u m x = true ↔ 2 * m ∣ x * x - u := by
  unfold okR
  rw [beq_iff_eq]
  exact ⟨Int.dvd_of_tmod_eq_zero, Int.tmod_eq_zero_of_dvd⟩
theorem mem_cand {u m r x : Int} : x ∈ cand u m r ↔ (x = r ∨ x = r + m) ∧ 2 * m ∣ x * x - u := by
  unfold cand; rw [List.mem_filter, okR_iff]; simp
theorem IR.step {u m : Int} {zs : List Int} (hm : 1 ≤ m) (h : IR u m zs) : IR u (2 * m) (zs.flatMap (cand u m)) := by
  obtain ⟨h1, h2⟩ := h
  refine ⟨?_, fun x => ?_⟩
  · unfold List.Nodup
    rw [List.pairwise_flatMap]
    refine ⟨fun r hr => ?_, ?_⟩
    · unfold cand
      refine List.Pairwise.filter _ ?_
      simp; omega
    · have h3 : zs.Pairwise (fun a b => (0 ≤ a ∧ a < m) ∧ (0 ≤ b ∧ b < m) ∧ a ≠ b) := by
        rw [List.pairwise_iff_forall_sublist]
        intro a b hs
        have ha := (h2 a).1 (hs.subset (by simp))
        have hb := (h2 b).1 (hs.subset (by simp))
        refine ⟨⟨ha.1, ha.2.1⟩, ⟨hb.1, hb.2.1⟩, ?_⟩
        exact List.pairwise_iff_forall_sublist.1 h1 hs
      refine h3.imp ?_
      intro a b ⟨⟨a1, a2⟩, ⟨b1, b2⟩, hne⟩ x hx y hy
      rcases (mem_cand.1 hx).1 with rfl | rfl <;> rcases (mem_cand.1 hy).1 with rfl | rfl <;> omega
  · rw [List.mem_flatMap]
    constructor
    · rintro ⟨r, hr, hx⟩
      obtain ⟨r1, r2, -⟩ := (h2 r).1 hr
      obtain ⟨hx1, hx2⟩ := mem_cand.1 hx
      exact ⟨by rcases hx1 with rfl | rfl <;> omega, by rcases hx1 with rfl | rfl <;> omega, hx2⟩
    · rintro ⟨x1, x2, x3⟩
      have hmx : m ∣ x * x - u := Int.dvd_trans (Int.dvd_mul_left 2 m) x3
      by_cases hxm : x < m
      · exact ⟨x, (h2 x).2 ⟨x1, hxm, hmx⟩, mem_cand.2 ⟨.inl rfl, x3⟩⟩
      · refine ⟨x - m, (h2 _).2 ⟨by omega, by omega, ?_⟩, mem_cand.2 ⟨.inr (by omega), x3⟩⟩
        have e : (x - m) * (x - m) - u = (x * x - u) + m * (m - 2 * x) := by grind
        rw [e]; exact Int.dvd_add hmx (Int.dvd_mul_right _ _)
theorem cand_len (u m r : Int) : (cand u m r).length ≤ 2 := List.length_filter_le _ _
theorem flat_len (u m : Int) (zs : List Int) : (zs.flatMap (cand u m)).length ≤ 2 * zs.length := by
  induction zs with
  | nil => simp
  | cons a t ih => rw [List.flatMap_cons, List.length_append, List.length_cons]; have := cand_len u m a; omega
theorem IR.start {u : Int} (h : u % 2 = 1) : IR u 2 [1] := by
  refine ⟨by simp, fun x => ?_⟩
  simp only [List.mem_cons, List.not_mem_nil, or_false]
  constructor
  · rintro rfl; exact ⟨by omega, by omega, by omega⟩
  · rintro ⟨h1, h2, h3⟩
    have : x = 0 ∨ x = 1 := by omega
    rcases this with rfl | rfl
    · simp at h3; omega
    · rfl
theorem take_flat {u m : Int} {zs : List Int} {k : Nat} (h : k < zs.length) : (zs.take (k + 1)).flatMap (cand u m) = (zs.take k).flatMap (cand u m) ++ cand u m zs[k] := by
  rw [List.take_succ_eq_append_getElem h, List.flatMap_append]; simp
end Go.Proofs.Ytcbdnnboddahkaa.He
