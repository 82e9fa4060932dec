/-
  Plain mathematics of the search for an isomorphism: the elements of the box in their order, and the first pair of two lists.
  WALKS: lists of elements that a call made.
  WALK: the elements of the box, yielded one after the other.
  WALKS: the reference's lists of roots in the box.
-/
import Derived.Test.YtgbnmnkgelklbaaAlO
import Derived.Test.YtgbnmnkgelklbaaMgRm
import Derived.RangeFuncNested
import Derived.RangeFuncBound
import Derived.RangeFuncCalls
import Derived.RangeFuncLeaves
import Derived.RangeFuncBox
import Derived.Shelf.Abstract
import Derived.Shelf.RegionOpen
import Derived.WalkKit
import Derived.OwnWalkIn
import Derived.TacticsInMore
import Derived.LoopNIn
import Derived.LoopIn
import Derived.Maps.OwnIn
import Derived.Test.YtgbnmnkgelklbaaAl4
import Derived.Test.YtgbnmnkgelklbaaAlV
namespace Go.Proofs.Ytgbnmnkgelklbaa.Iso
open Alm
set_option linter.unusedVariables false
/-- the elements of the box with the denominator d that pass f: z, y, x, denominators up to a number -/
def Zl (f : Q → Bool) (d x y : Int) (k : Nat) : List Q := ((List.range k).map fun i : Nat => (⟨0, x, y, (i : Int) - 8, d⟩ : Q)).filter f
def Yl (f : Q → Bool) (d x : Int) (k : Nat) : List Q := (List.range k).flatMap fun j : Nat => Zl f d x ((j : Int) - 8) 17
def Xl (f : Q → Bool) (d : Int) (k : Nat) : List Q := (List.range k).flatMap fun i : Nat => Yl f d ((i : Int) - 8) 17
def Dl (f : Q → Bool) (k : Nat) : List Q := (List.range k).flatMap fun e : Nat => Xl f ((e : Int) + 1) 17
theorem Zl_no {f : Q → Bool} {d x y : Int} {k : Nat} (h : f ⟨0, x, y, (k : Int) - 8, d⟩ = false) : Zl f d x y (k + 1) = Zl f d x y k := by
  unfold Zl; rw [List.range_succ]; simp [h]
theorem Zl_yes {f : Q → Bool} {d x y : Int} {k : Nat} (h : f ⟨0, x, y, (k : Int) - 8, d⟩ = true) : Zl f d x y (k + 1) = Zl f d x y k ++ [⟨0, x, y, (k : Int) - 8, d⟩] := by
  unfold Zl; rw [List.range_succ]; simp [h]
theorem Yl_succ (f : Q → Bool) (d x : Int) (k : Nat) : Yl f d x (k + 1) = Yl f d x k ++ Zl f d x ((k : Int) - 8) 17 := by
  unfold Yl; rw [List.range_succ]; simp
theorem Xl_succ (f : Q → Bool) (d : Int) (k : Nat) : Xl f d (k + 1) = Xl f d k ++ Yl f d ((k : Int) - 8) 17 := by
  unfold Xl; rw [List.range_succ]; simp
theorem Dl_succ (f : Q → Bool) (k : Nat) : Dl f (k + 1) = Dl f k ++ Xl f ((k : Int) + 1) 17 := by
  unfold Dl; rw [List.range_succ]; simp
theorem Zl_zero (f : Q → Bool) (d x y : Int) : Zl f d x y 0 = [] := rfl
theorem Yl_zero (f : Q → Bool) (d x : Int) : Yl f d x 0 = [] := rfl
theorem Xl_zero (f : Q → Bool) (d : Int) : Xl f d 0 = [] := rfl
theorem Dl_zero (f : Q → Bool) : Dl f 0 = [] := rfl
theorem Zl_filter (f g : Q → Bool) (d x y : Int) (k : Nat) : (Zl f d x y k).filter g = Zl (fun q => f q && g q) d x y k := by
  unfold Zl; rw [List.filter_filter]; congr 1; funext q; exact Bool.and_comm _ _
theorem Yl_filter (f g : Q → Bool) (d x : Int) (k : Nat) : (Yl f d x k).filter g = Yl (fun q => f q && g q) d x k := by
  unfold Yl; rw [List.filter_flatMap]; congr 1; funext j; exact Zl_filter ..
theorem Xl_filter (f g : Q → Bool) (d : Int) (k : Nat) : (Xl f d k).filter g = Xl (fun q => f q && g q) d k := by
  unfold Xl; rw [List.filter_flatMap]; congr 1; funext j; exact Yl_filter ..
theorem Dl_filter (f g : Q → Bool) (k : Nat) : (Dl f k).filter g = Dl (fun q => f q && g q) k := by
  unfold Dl; rw [List.filter_flatMap]; congr 1; funext j; exact Xl_filter ..
theorem Zl_len (f : Q → Bool) (d x y : Int) (k : Nat) : (Zl f d x y k).length ≤ k := by
  unfold Zl; exact Nat.le_trans (List.length_filter_le _ _) (by simp)
theorem Yl_len (f : Q → Bool) (d x : Int) : ∀ k : Nat, (Yl f d x k).length ≤ k * 17
  | 0 => by simp [Yl_zero]
  | k + 1 => by rw [Yl_succ, List.length_append]; have := Yl_len f d x k; have := Zl_len f d x ((k : Int) - 8) 17; omega
theorem Xl_len (f : Q → Bool) (d : Int) : ∀ k : Nat, (Xl f d k).length ≤ k * 289
  | 0 => by simp [Xl_zero]
  | k + 1 => by rw [Xl_succ, List.length_append]; have := Xl_len f d k; have := Yl_len f d ((k : Int) - 8) 17; omega
theorem Dl_len (f : Q → Bool) : ∀ k : Nat, (Dl f k).length ≤ k * 4913
  | 0 => by simp [Dl_zero]
  | k + 1 => by rw [Dl_succ, List.length_append]; have := Dl_len f k; have := Xl_len f ((k : Int) + 1) 17; omega
theorem Dl_mem {f : Q → Bool} {k : Nat} {q : Q} (h : q ∈ Dl f k) : q.w = 0 ∧ (-8 ≤ q.x ∧ q.x ≤ 8) ∧ (-8 ≤ q.y ∧ q.y ≤ 8) ∧ (-8 ≤ q.z ∧ q.z ≤ 8) ∧ (1 ≤ q.d ∧ q.d ≤ k) ∧ f q = true := by
  unfold Dl at h
  obtain ⟨e, he, h⟩ := List.mem_flatMap.1 h
  unfold Xl at h
  obtain ⟨i, hi, h⟩ := List.mem_flatMap.1 h
  unfold Yl at h
  obtain ⟨j, hj, h⟩ := List.mem_flatMap.1 h
  unfold Zl at h
  obtain ⟨h, hf⟩ := List.mem_filter.1 h
  obtain ⟨t, ht, rfl⟩ := List.mem_map.1 h
  rw [List.mem_range] at he hi hj ht
  exact ⟨rfl, ⟨by simp only; omega, by simp only; omega⟩, ⟨by simp only; omega, by simp only; omega⟩, ⟨by simp only; omega, by simp only; omega⟩, ⟨by simp only; omega, by simp only; omega⟩, hf⟩
/-- an element of the box in lowest terms -/
def lowB (q : Q) : Bool := g5 q.w q.x q.y q.z q.d == 1
theorem low_self (q : Q) (hd : 0 < q.d) : lowB q = true ↔ q.low = q := by
  unfold lowB
  rw [beq_iff_eq]
  constructor
  · intro h
    have e : gs q.w q.x q.y q.z q.d = 1 := by unfold gs sgn; rw [if_neg (by omega), h]; rfl
    unfold Q.low
    rw [e]
    simp only [Int.tdiv_one]
  · intro h
    have hp := g5_pos (w := q.w) (x := q.x) (y := q.y) (z := q.z) (d := q.d) (by omega)
    have e : gs q.w q.x q.y q.z q.d = (g5 q.w q.x q.y q.z q.d : Int) := by unfold gs sgn; rw [if_neg (by omega)]
    have hd' : q.d.tdiv (gs q.w q.x q.y q.z q.d) = q.d := congrArg Q.d h
    obtain ⟨k, hk⟩ := (gs_dvd q.w q.x q.y q.z q.d).2.2.2.2
    generalize gs q.w q.x q.y q.z q.d = g at *
    have h0 : g ≠ 0 := by omega
    rw [hk, Int.mul_tdiv_cancel_left _ h0] at hd'
    have : k = g * k := hd'
    have hk0 : 0 < k := by
      rcases Int.lt_trichotomy k 0 with h1 | h1 | h1
      · have := Int.mul_neg_of_pos_of_neg (a := g) (b := k) (by omega) h1; omega
      · subst h1; omega
      · exact h1
    have : g = 1 := by
      have e1 : 1 * k = g * k := by omega
      exact (Int.eq_of_mul_eq_mul_right (by omega) e1).symm
    omega
/-- the first pair -/
def ff (t : Q → Q → Bool) (l m : List Q) : Option (Q × Q) := l.findSome? fun p => (m.find? (t p)).map fun q => (p, q)
theorem ff_none {t : Q → Q → Bool} {l m : List Q} (h : ∀ i p, i < l.length → l[i]? = some p → m.find? (t p) = none) : ff t l m = none := by
  unfold ff
  rw [List.findSome?_eq_none_iff]
  intro p hp
  obtain ⟨i, hi⟩ := List.getElem?_of_mem hp
  rw [h i p (List.getElem?_eq_some_iff.1 hi).1 hi]; rfl
theorem find_none {t : Q → Bool} {m : List Q} (h : ∀ j q, j < m.length → m[j]? = some q → t q = false) : m.find? t = none := by
  rw [List.find?_eq_none]
  intro q hq
  obtain ⟨j, hj⟩ := List.getElem?_of_mem hq
  rw [h j q (List.getElem?_eq_some_iff.1 hj).1 hj]; simp
theorem find_some {t : Q → Bool} : ∀ {m : List Q} {j : Nat} {q : Q}, m[j]? = some q → t q = true → (∀ i r, i < j → m[i]? = some r → t r = false) → m.find? t = some q
  | [], j, q, h, _, _ => by simp at h
  | a :: m, 0, q, h, ht, _ => by
    simp at h; subst h; simp [ht]
  | a :: m, j + 1, q, h, ht, hn => by
    have h0 := hn 0 a (by omega) rfl
    rw [List.find?_cons_of_neg (by rw [h0]; simp)]
    exact find_some (by simpa using h) ht fun i r hi hr => hn (i + 1) r (by omega) (by simpa using hr)
theorem ff_some {t : Q → Q → Bool} : ∀ {l m : List Q} {i : Nat} {p q : Q}, l[i]? = some p → m.find? (t p) = some q → (∀ k r, k < i → l[k]? = some r → m.find? (t r) = none) → ff t l m = some (p, q)
  | [], m, i, p, q, h, _, _ => by simp at h
  | a :: l, m, 0, p, q, h, ht, _ => by
    simp at h; subst h; simp [ff, ht]
  | a :: l, m, i + 1, p, q, h, ht, hn => by
    have h0 := hn 0 a (by omega) rfl
    have : ff t l m = some (p, q) := ff_some (by simpa using h) ht fun k r hk hr => hn (k + 1) r (by omega) (by simpa using hr)
    unfold ff at this ⊢
    rw [List.findSome?_cons, h0]; exact this
theorem ff_mem {t : Q → Q → Bool} {l m : List Q} {p q : Q} (h : ff t l m = some (p, q)) : p ∈ l ∧ q ∈ m ∧ t p q = true := by
  unfold ff at h
  obtain ⟨r, hr, h⟩ := List.exists_of_findSome?_eq_some h
  cases hf : m.find? (t r) with
  | none => rw [hf] at h; cases h
  | some s =>
    rw [hf] at h
    simp only [Option.map_some, Option.some.injEq, Prod.mk.injEq] at h
    obtain ⟨rfl, rfl⟩ := h
    exact ⟨hr, List.mem_of_find?_eq_some hf, List.find?_some hf⟩
end Go.Proofs.Ytgbnmnkgelklbaa.Iso
namespace Go.Proofs.Ytgbnmnkgelklbaa.Iso
open Go.RowKit
open Alm
set_option linter.unusedVariables false
set_option linter.unusedSimpArgs false
set_option maxRecDepth 100000
def flatQ : List Q → List Value
  | [] => []
  | q :: l => .int .i64 q.w :: .int .i64 q.x :: .int .i64 q.y :: .int .i64 q.z :: .int .i64 q.d :: flatQ l
theorem flatQ_app : ∀ l m : List Q, flatQ (l ++ m) = flatQ l ++ flatQ m
  | [], m => rfl
  | q :: l, m => by simp only [List.cons_append, flatQ]; rw [flatQ_app l m]
theorem flatQ_len : ∀ l : List Q, (flatQ l).length = l.length * 5
  | [] => rfl
  | q :: l => by simp only [flatQ, List.length_cons]; rw [flatQ_len l]; omega
theorem flatQ_get : ∀ (l : List Q) (i : Nat) (q : Q), l[i]? = some q → (flatQ l)[i * 5]? = some (.int .i64 q.w) ∧ (flatQ l)[i * 5 + 1]? = some (.int .i64 q.x) ∧ (flatQ l)[i * 5 + 2]? = some (.int .i64 q.y) ∧ (flatQ l)[i * 5 + 3]? = some (.int .i64 q.z) ∧ (flatQ l)[i * 5 + 4]? = some (.int .i64 q.d)
  | [], i, q, h => by simp at h
  | r :: l, 0, q, h => by simp at h; subst h; exact ⟨rfl, rfl, rfl, rfl, rfl⟩
  | r :: l, i + 1, q, h => by
    have := flatQ_get l i q (by simpa using h)
    have e1 : (i + 1) * 5 = i * 5 + 5 := by omega
    rw [e1]; exact this
theorem infoQ : (Try.prog.info? 35).map (fun i => (i.zero, i.size, i.bytes)) = some (some (.agg #[.int .i64 0, .int .i64 0, .int .i64 0, .int .i64 0, .int .i64 0]), 5, 40) := by kernel_rfl
theorem five_new (w : World) (a b c d e : Value) (T : TypeId) (n : Nat) (hn : n = w.heap.size) : ∀ (j : Nat) (x : Value), [a, b, c, d, e][j]? = some x → (w.alloc (.cells #[a, b, c, d, e] T)).cell? ((⟨n, 0, none⟩ : Addr).add j) = some x := by
  subst hn
  intro j x hj
  match j with
  | 0 => simp at hj; subst hj; simp [go_sem]
  | 1 => simp at hj; subst hj; simp [go_sem]
  | 2 => simp at hj; subst hj; simp [go_sem]
  | 3 => simp at hj; subst hj; simp [go_sem]
  | 4 => simp at hj; subst hj; simp [go_sem]
  | j + 5 => simp at hj
/-- a list of elements that the call made -/
def LQ (B : Nat) (w : World) (A : Option Addr) (c : Nat) (L : List Q) : Prop := w.ownsRow B 35 5 (.slice A L.length c) L.length (flatQ L)
theorem LQ.of {B : Nat} {w : World} {v : Value} {L : List Q} (h : w.ownsRow B 35 5 v L.length (flatQ L)) : ∃ A c, v = .slice A L.length c ∧ LQ B w A c L ∧ c ≤ 9223372036854775807 ∧ L.length ≤ c := by
  have h' := h
  rcases h.2 with ⟨rfl, h0⟩ | ⟨g, cap, cur, rfl, hb, hg, h1, h2, h3, h4⟩
  · exact ⟨none, 0, by rw [h0], by unfold LQ; rw [h0]; rw [h0] at h'; exact h', by omega, by omega⟩
  · exact ⟨_, cap, rfl, h', by unfold maxLen at h2; omega, h1⟩
theorem LQ.at_ {B : Nat} {w : World} {A : Option Addr} {c : Nat} {L : List Q} (h : LQ B w A c L) {j : Nat} {q : Q} (hj : L[j]? = some q) : ∃ b, A = some ⟨b, 0, none⟩ ∧ (w.cell? ⟨b, j * 5, none⟩ = some (.int .i64 q.w) ∧ w.cell? ⟨b, j * 5 + 1, none⟩ = some (.int .i64 q.x) ∧ w.cell? ⟨b, j * 5 + 2, none⟩ = some (.int .i64 q.y) ∧ w.cell? ⟨b, j * 5 + 3, none⟩ = some (.int .i64 q.z) ∧ w.cell? ⟨b, j * 5 + 4, none⟩ = some (.int .i64 q.d)) ∧ B ≤ b ∧ b < w.heap.size := by
  have hjl : j < L.length := (List.getElem?_eq_some_iff.1 hj).1
  rcases h.2 with ⟨h0, h1⟩ | ⟨g, cap, cur, hv, hb, hg, h1, h2, h3, h4⟩
  · omega
  · injection hv with e1 e2 e3
    subst e1 e3
    obtain ⟨f0, f1, f2, f3, f4⟩ := flatQ_get L j q hj
    refine ⟨g, rfl, ⟨?_, ?_, ?_, ?_, ?_⟩, hb, (Array.getElem?_eq_some_iff.1 hg).1⟩
    · rw [World.ownsRow.cellAt h (j * 5) (by omega)]; exact f0
    · rw [World.ownsRow.cellAt h (j * 5 + 1) (by omega)]; exact f1
    · rw [World.ownsRow.cellAt h (j * 5 + 2) (by omega)]; exact f2
    · rw [World.ownsRow.cellAt h (j * 5 + 3) (by omega)]; exact f3
    · rw [World.ownsRow.cellAt h (j * 5 + 4) (by omega)]; exact f4
theorem LQ.below {B B' : Nat} {w w' : World} {A : Option Addr} {c : Nat} {L : List Q} (h : LQ B w A c L) (hb : Below B' w w') (hB : ∀ a, A = some a → a.block < B') : LQ B w' A c L := by
  refine ⟨h.1, ?_⟩
  rcases h.2 with ⟨h0, h1⟩ | ⟨g, cap, cur, hv, h5, hg, h1, h2, h3, h4⟩
  · exact .inl ⟨h0, h1⟩
  · injection hv with e1 e2 e3
    subst e1 e3
    exact .inr ⟨g, c, cur, rfl, h5, (hb.block g (hB _ rfl)).trans hg, h1, h2, h3, h4⟩
theorem LQ.lt {B : Nat} {w : World} {A : Option Addr} {c : Nat} {L : List Q} (h : LQ B w A c L) : ∀ a, A = some a → a.block < w.heap.size := by
  intro a ha
  subst ha
  rcases h.2 with ⟨h0, h1⟩ | ⟨g, cap, cur, hv, h5, hg, h1, h2, h3, h4⟩
  · cases h0
  · injection hv with e1 e2 e3
    injection e1 with e1
    subst e1
    exact (Array.getElem?_eq_some_iff.1 hg).1
theorem LQ.next {B : Nat} {w w' : World} {A : Option Addr} {c : Nat} {L : List Q} (h : LQ B w A c L) (hb : Below w.heap.size w w') : LQ B w' A c L := LQ.below h hb (LQ.lt h)
end Go.Proofs.Ytgbnmnkgelklbaa.Iso
namespace Go.Proofs.Ytgbnmnkgelklbaa.Iso
open Go.RowKit Go.Shelf
open Alm Al
attribute [local go_sem] Oper.semAt_some
set_option linter.unusedVariables false
set_option linter.unusedSimpArgs false
set_option maxRecDepth 100000
abbrev QB := { q : Q // chkQ q.w q.x q.y q.z q.d = 0 ∧ lowB q = true }
def encQ (q : QB) : Array Value := #[.agg #[.int .i64 (q.1).w, .int .i64 (q.1).x, .int .i64 (q.1).y, .int .i64 (q.1).z, .int .i64 (q.1).d]]
theorem box_chk {x y z d : Int} (hx : -8 ≤ x ∧ x ≤ 8) (hy : -8 ≤ y ∧ y ≤ 8) (hz : -8 ≤ z ∧ z ≤ 8) (hd : 1 ≤ d ∧ d ≤ 2) : chkQ 0 x y z d = 0 := by
  unfold chkQ
  rw [if_pos]
  unfold qB qin
  exact decide_eq_true ⟨⟨by simp only; omega, by simp only; omega⟩, ⟨by simp only; omega, by simp only; omega⟩, ⟨by simp only; omega, by simp only; omega⟩, ⟨by simp only; omega, by simp only; omega⟩, by simp only; omega, by simp only; omega⟩
theorem ns_four (w : World) (a b c d : Int) (T : TypeId) (n : Nat) (hn : n = w.heap.size) : Ns (w.alloc (.cells #[.int .i64 a, .int .i64 b, .int .i64 c, .int .i64 d] T)) (some ⟨n, 0, none⟩) [a, b, c, d] := by
  subst hn
  intro _
  refine ⟨_, rfl, ?_⟩
  intro j hj
  match j, hj with
  | 0, _ => simp [go_sem]
  | 1, _ => simp [go_sem]
  | 2, _ => simp [go_sem]
  | 3, _ => simp [go_sem]
theorem low_cdl (d x y z : Int) : cdl [d, x, y, z] = g5 0 x y z d := by
  simp only [cdl, g5, List.foldl_cons, List.foldl_nil, Nat.gcd_zero_left, Int.natAbs_zero]
  rw [Nat.gcd_comm (Nat.gcd x.natAbs (Nat.gcd y.natAbs z.natAbs)) d.natAbs, Nat.gcd_assoc, Nat.gcd_assoc]
theorem grown_drewN (w : World) (n : Nat) (row : Option Nat) : w.grownBy (w.drewN n) row := ⟨rfl, rfl, rfl, Nat.le_refl _, fun _ _ _ => rfl⟩
theorem lens {k i j t : Nat} {ys : List QB} {d x y d' x' y' : Int} (h : ys.map Subtype.val = Dl lowB k ++ Xl lowB d i ++ Yl lowB x y j ++ Zl lowB d' x' y' t) (hk : k ≤ 1) (hi : i ≤ 16) (hj : j ≤ 16) (ht : t ≤ 16) : ys.length < 9826 := by
  have e := congrArg List.length h
  simp only [List.length_map, List.length_append] at e
  have h1 := Dl_len lowB k
  have h2 := Xl_len lowB d i
  have h3 := Yl_len lowB x y j
  have h4 := Zl_len lowB d' x' y' t
  omega
theorem cd_four (d x y z : Int) (T : TypeId) (n : Nat) (W : World) (hn : n = W.heap.size) (hx : -8 ≤ x ∧ x ≤ 8) (hy : -8 ≤ y ∧ y ≤ 8) (hz : -8 ≤ z ∧ z ≤ 8) (hd : 1 ≤ d ∧ d ≤ 2) :
    Calls Try.prog 59 #[.slice (some ⟨n, 0, none⟩) 4 4] (W.alloc (.cells #[.int .i64 d, .int .i64 x, .int .i64 y, .int .i64 z] T)) fun e w' => e = .returned (.int .i64 (g5 0 x y z d : Int)) ∧ W.grownBy w' none ∧ ∃ m, w' = (W.alloc (.cells #[.int .i64 d, .int .i64 x, .int .i64 y, .int .i64 z] T)).drewN m := by
  refine (cd_any [d, x, y, z] _ _ _ (by simp) (by simp) (by decide) (ns_four _ _ _ _ _ _ _ hn) ?_).mono ?_
  · intro j hj
    match j, hj with
    | 0, _ => exact ⟨by simp; omega, by simp; omega⟩
    | 1, _ => exact ⟨by simp; omega, by simp; omega⟩
    | 2, _ => exact ⟨by simp; omega, by simp; omega⟩
    | 3, _ => exact ⟨by simp; omega, by simp; omega⟩
  · rintro e w' ⟨rfl, m, rfl⟩
    rw [low_cdl]
    exact ⟨rfl, ⟨rfl, rfl, rfl, by simp, fun k hk _ => (World.grownBy_alloc W _ none).block k hk (by simp)⟩, m, rfl⟩
set_option maxHeartbeats 8000000 in
theorem cand_stops (n : Nat) (hn : 1 ≤ n) (w : World) : SeqStopsK Fence.wide n Try.prog 42 #[] encQ (fun _ _ => True) (fun ys : List QB => ys.map Subtype.val = Dl lowB 2) (fun _ => True) 9826 w := by
  intro l J Jx W hW hJ hJx hY h0
  have HJ : Hid (∀ ys wa wb, J ys wa → wa.grownBy wb none → J ys wb) := Lib.hid fun ys wa wb h hg => hJ ys wa wb none h hg (by simp)
  have HY := Lib.hid hY
  clear hJ hJx hY hW
  refine callsIn_of_wp Try.func42 rfl trivial ?_ rfl
  simp only [Try.ntmps42, List.size_toArray, List.length_cons, List.length_nil, Nat.reduceAdd, Nat.reduceSub, Array.replicate_succ, Array.replicate_zero, List.push_toArray, List.append_toArray, List.nil_append, List.cons_append]
  gi_wp2
  gi_loopw [2] (fun t2 wr => ∃ (k : Nat) (ys : List QB), (k ≤ 2 ∧ ys.map Subtype.val = Dl lowB k ∧ J ys wr) ∧ t2 = .int .i64 ((k : Int) + 1)) (fun t2 _ => 3 - (intOf t2).toNat)
  case atStart => exact ⟨0, [], ⟨by omega, rfl, h0⟩, rfl⟩
  case round =>
    obtain ⟨k, ys, ⟨hk2, hys, hJs⟩, rfl⟩ := hrel
    have HYS := Lib.hid hys
    have HJS := Lib.hid hJs
    clear hys hJs
    by_cases hk : k ≤ 1
    · have t1 : decide (((k : Int) + 1) ≤ 2) = true := decide_eq_true (by omega)
      gi_wp2
      gi_loopw [3] (fun t3 wr => ∃ (i : Nat) (x : Int) (ys : List QB), (i ≤ 17 ∧ -8 ≤ x ∧ x ≤ 9 ∧ Hid (x = (i : Int) - 8) ∧ ys.map Subtype.val = Dl lowB k ++ Xl lowB ((k : Int) + 1) i ∧ J ys wr) ∧ t3 = .int .i64 x) (fun t3 _ => (9 - intOf t3).toNat)
      case atStart => exact ⟨0, -8, ys, ⟨by omega, by omega, by omega, Lib.hid rfl, by rw [HYS.out, Xl_zero, List.append_nil], HJS.out⟩, rfl⟩
      case round =>
        clear HYS HJS
        obtain ⟨i, x, ys, ⟨hi, hx1, hx2, HX, hys, hJs⟩, rfl⟩ := hrel
        have HYS := Lib.hid hys
        have HJS := Lib.hid hJs
        clear hys hJs
        by_cases hxx : x ≤ 8
        · have t2 : decide (x ≤ 8) = true := decide_eq_true hxx
          have hi' : i ≤ 16 := by have := HX.out; omega
          gi_wp2
          gi_loopw [4] (fun t4 wr => ∃ (j : Nat) (y : Int) (ys : List QB), (j ≤ 17 ∧ -8 ≤ y ∧ y ≤ 9 ∧ Hid (y = (j : Int) - 8) ∧ ys.map Subtype.val = Dl lowB k ++ Xl lowB ((k : Int) + 1) i ++ Yl lowB ((k : Int) + 1) x j ∧ J ys wr) ∧ t4 = .int .i64 y) (fun t4 _ => (9 - intOf t4).toNat)
          case atStart => exact ⟨0, -8, ys, ⟨by omega, by omega, by omega, Lib.hid rfl, by rw [HYS.out, Yl_zero, List.append_nil], HJS.out⟩, rfl⟩
          case round =>
            clear HYS HJS
            obtain ⟨j, y, ys, ⟨hj, hy1, hy2, HYY, hys, hJs⟩, rfl⟩ := hrel
            have HYS := Lib.hid hys
            have HJS := Lib.hid hJs
            clear hys hJs
            by_cases hyy : y ≤ 8
            · have t3 : decide (y ≤ 8) = true := decide_eq_true hyy
              have hj' : j ≤ 16 := by have := HYY.out; omega
              gi_wp2
              gi_loopw [5] (fun t5 wr => ∃ (t : Nat) (z : Int) (ys : List QB), (t ≤ 17 ∧ -8 ≤ z ∧ z ≤ 9 ∧ Hid (z = (t : Int) - 8) ∧ ys.map Subtype.val = Dl lowB k ++ Xl lowB ((k : Int) + 1) i ++ Yl lowB ((k : Int) + 1) x j ++ Zl lowB ((k : Int) + 1) x y t ∧ J ys wr) ∧ t5 = .int .i64 z) (fun t5 _ => (9 - intOf t5).toNat)
              case atStart => exact ⟨0, -8, ys, ⟨by omega, by omega, by omega, Lib.hid rfl, by rw [HYS.out, Zl_zero, List.append_nil], HJS.out⟩, rfl⟩
              case round =>
                clear HYS HJS
                obtain ⟨t, z, ys, ⟨ht, hz1, hz2, HZ, hys, hJs⟩, rfl⟩ := hrel
                have HYS := Lib.hid hys
                have HJS := Lib.hid hJs
                clear hys hJs
                by_cases hzz : z ≤ 8
                · have t4 : decide (z ≤ 8) = true := decide_eq_true hzz
                  have ht' : t ≤ 16 := by have := HZ.out; omega
                  have CD := Lib.hid (fun T m W hm => cd_four ((k : Int) + 1) x y z T m W hm ⟨hx1, hxx⟩ ⟨hy1, hyy⟩ ⟨hz1, hzz⟩ ⟨by omega, by omega⟩)
                  have CK := Lib.hid (box_chk (x := x) (y := y) (z := z) (d := (k : Int) + 1) ⟨hx1, hxx⟩ ⟨hy1, hyy⟩ ⟨hz1, hzz⟩ ⟨by omega, by omega⟩)
                  have LN := Lib.hid (lens HYS.out hk hi' hj' ht')
                  rcases hl : lowB ⟨0, x, y, z, (k : Int) + 1⟩ with _ | _
                  · have HG : Hid (((g5 0 x y z ((k : Int) + 1) : Int) == 1) = false) := Lib.hid (by
                      rw [beq_eq_false_iff_ne]; intro h
                      unfold lowB at hl; rw [beq_eq_false_iff_ne] at hl; exact hl (by exact_mod_cast h))
                    have HL := Lib.hid hl
                    clear hl
                    gi_wp2_with (refine ⟨trivial, ?_⟩; gi_at_call 59; refine (callsIn_wide.2 (CD.out _ _ _ rfl)).mono ?_; rintro e w' ⟨rfl, hgr, m, rfl⟩; have hg := HG.out; have HGR := Lib.hid hgr; clear hgr)
                    refine ⟨fun _ h => (by cases h), ?_⟩
                    gi_wp2
                    go_roundw
                    case rel => exact ⟨t + 1, z + 1, ys, ⟨by omega, by omega, by omega, Lib.hid (by have := HZ.out; omega), by rw [Zl_no (by rw [← HZ.out]; exact HL.out)]; exact HYS.out, HJ.out _ _ _ HJS.out HGR.out⟩, rfl⟩
                    case measure => simp [intOf]; omega
                  · have HG : Hid (((g5 0 x y z ((k : Int) + 1) : Int) == 1) = true) := Lib.hid (by
                      rw [beq_iff_eq]
                      unfold lowB at hl; rw [beq_iff_eq] at hl; exact_mod_cast hl)
                    have HL := Lib.hid hl
                    clear hl
                    gi_wp2_with (refine ⟨trivial, ?_⟩; gi_at_call 59; refine (callsIn_wide.2 (CD.out _ _ _ rfl)).mono ?_; rintro e w' ⟨rfl, hgr, m, rfl⟩; have hg := HG.out; obtain ⟨fn, tmps, assign, body, hy, hR⟩ := HY.out ys ⟨⟨0, x, y, z, (k : Int) + 1⟩, CK.out, HL.out⟩ _ (HJ.out _ _ _ HJS.out hgr) LN.out; dsimp only [encQ] at hy; clear hgr)
                    refine hR.mono ?_
                    rintro e W3 (⟨rfl, hJ3, -⟩ | ⟨rfl, hJx3⟩)
                    · have HJ3 := Lib.hid hJ3
                      clear hJ3 hy hR
                      gi_wp2
                      go_roundw
                      case rel => exact ⟨t + 1, z + 1, _, ⟨by omega, by omega, by omega, Lib.hid (by have := HZ.out; omega), by rw [Zl_yes (by rw [← HZ.out]; exact HL.out), List.map_append, HYS.out, ← HZ.out]; simp, HJ3.out⟩, rfl⟩
                      case measure => simp [intOf]; omega
                    · clear hy hR
                      gi_wp2
                      refine bodyPost_ret (results_none rfl _ _ _) rfl ?_
                      exact ⟨⟨_, rfl⟩, .inr ⟨_, trivial, hJx3⟩⟩
                · have t4 : decide (z ≤ 8) = false := decide_eq_false hzz
                  have ht' : t = 17 := by have := HZ.out; omega
                  have HT := Lib.hid ht'
                  clear ht'
                  gi_wp2
                  go_roundw
                  case rel => exact ⟨j + 1, y + 1, ys, ⟨by omega, by omega, by omega, Lib.hid (by have := HYY.out; omega), by rw [Yl_succ, ← HYY.out, ← HT.out, ← List.append_assoc]; exact HYS.out, HJS.out⟩, rfl⟩
                  case measure => simp [intOf]; omega
            · have t3 : decide (y ≤ 8) = false := decide_eq_false hyy
              have hj' : j = 17 := by have := HYY.out; omega
              have HT := Lib.hid hj'
              clear hj'
              gi_wp2
              go_roundw
              case rel => exact ⟨i + 1, x + 1, ys, ⟨by omega, by omega, by omega, Lib.hid (by have := HX.out; omega), by rw [Xl_succ, ← HX.out, ← HT.out, ← List.append_assoc]; exact HYS.out, HJS.out⟩, rfl⟩
              case measure => simp [intOf]; omega
        · have t2 : decide (x ≤ 8) = false := decide_eq_false hxx
          have hi' : i = 17 := by have := HX.out; omega
          have HT := Lib.hid hi'
          clear hi'
          gi_wp2
          go_roundw
          case rel => exact ⟨k + 1, ys, ⟨by omega, by rw [Dl_succ, ← HT.out]; exact HYS.out, HJS.out⟩, by go_num⟩
          case measure => simp [intOf]; omega
    · have t1 : decide (((k : Int) + 1) ≤ 2) = false := decide_eq_false (by omega)
      have hk' : k = 2 := by omega
      have HT := Lib.hid hk'
      clear hk'
      gi_wp2
      go_end0
      exact ⟨⟨_, rfl⟩, .inl ⟨ys, by rw [← HT.out]; exact HYS.out, HJS.out⟩⟩
end Go.Proofs.Ytgbnmnkgelklbaa.Iso
namespace Go.Proofs.Ytgbnmnkgelklbaa.Iso
open Go.RowKit
open Alm Al
open Rm (K_Rk K_Rk.below K_Rk.bel K_Rk.cells K_Rk.zs K_Rk.alloc K_Rk.drew K_Rk.draws)
set_option linter.unusedVariables false
set_option linter.unusedSimpArgs false
set_option maxRecDepth 100000
def pf (A B n : Int) (q : Q) : Bool := lowB q && sqB A B q n
theorem merge_w {Goal : Prop} {K : World → Prop} (G : World → Prop) (main : Hid (∀ w, K w → G w) → Goal) (rest : ∀ w, K w → G w) : Goal := main (Lib.hid rest)
/-- the list that a loop keeps -/
def PI (w2 wr : World) (v : Value) (L : List Q) : Prop := wr.ownsRow w2.heap.size 35 5 v L.length (flatQ L) ∧ Below w2.heap.size w2 wr
/-- how an element of the box differs from its lowest terms -/
theorem low_ways (x y z d : Int) (hd : 0 < d) (h : lowB ⟨0, x, y, z, d⟩ = false) : ∃ a b c e : Int, (Q.mk 0 x y z d).low = ⟨0, a, b, c, e⟩ ∧ ((a == x) = false ∨ (a == x) = true ∧ ((b == y) = false ∨ (b == y) = true ∧ ((c == z) = false ∨ (c == z) = true ∧ (e == d) = false))) := by
  have hn : (Q.mk 0 x y z d).low ≠ ⟨0, x, y, z, d⟩ := fun e => by
    have := (low_self ⟨0, x, y, z, d⟩ hd).2 e
    rw [h] at this; cases this
  have hq : (Q.mk 0 x y z d).low = ⟨0, x.tdiv (gs 0 x y z d), y.tdiv (gs 0 x y z d), z.tdiv (gs 0 x y z d), d.tdiv (gs 0 x y z d)⟩ := by unfold Q.low; simp only [Int.zero_tdiv]
  refine ⟨_, _, _, _, hq, ?_⟩
  rw [hq] at hn
  simp only [beq_eq_false_iff_ne, beq_iff_eq]
  generalize x.tdiv (gs 0 x y z d) = a at *
  generalize y.tdiv (gs 0 x y z d) = b at *
  generalize z.tdiv (gs 0 x y z d) = c at *
  generalize d.tdiv (gs 0 x y z d) = e at *
  by_cases h1 : a = x
  · by_cases h2 : b = y
    · by_cases h3 : c = z
      · by_cases h4 : e = d
        · exact absurd (by rw [h1, h2, h3, h4]) hn
        · exact .inr ⟨h1, .inr ⟨h2, .inr ⟨h3, h4⟩⟩⟩
      · exact .inr ⟨h1, .inr ⟨h2, .inl h3⟩⟩
    · exact .inr ⟨h1, .inl h2⟩
  · exact .inl h1
theorem row_next {B : Nat} {e : TypeId} {size : Nat} {v : Value} {n : Nat} {xs : List Value} {w w' : World} (h : w.ownsRow B e size v n xs) (hb : Below w.heap.size w w') : w'.ownsRow B e size v n xs := by
  refine ⟨h.1, ?_⟩
  rcases h.2 with h0 | ⟨g, cap, cur, hv, h5, hg, r⟩
  · exact .inl h0
  · exact .inr ⟨g, cap, cur, hv, h5, (hb.block g (Array.getElem?_eq_some_iff.1 hg).1).trans hg, r⟩
theorem Nd_new {A B : Int} {ba : Nat} {w wo : World} (h : K_Rk A B ba w wo) (n0 n1 n2 n3 n4 : Int) : K_Nd A B n0 n1 n2 n3 n4 ba wo.heap.size (wo.alloc (.cells #[.int .i64 n0, .int .i64 n1, .int .i64 n2, .int .i64 n3, .int .i64 n4] 35)) (wo.alloc (.cells #[.int .i64 n0, .int .i64 n1, .int .i64 n2, .int .i64 n3, .int .i64 n4] 35)) := by
  have h2 : KL w _ _ _ := KL.push5 h n0 n1 n2 n3 n4 35 _ rfl
  exact ⟨fun v hv => h2.c v (by simp only [List.mem_cons, List.not_mem_nil, or_false] at hv ⊢; grind), by simp, by simp, Below.refl _ _⟩
theorem ownsRow_base' {B B' : Nat} {e : TypeId} {size : Nat} {v : Value} {n : Nat} {xs : List Value} {w : World} (h : w.ownsRow B e size v n xs) (hb : B' ≤ B) : w.ownsRow B' e size v n xs := by
  refine ⟨h.1, ?_⟩
  rcases h.2 with h0 | ⟨g, cap, cur, hv, h5, r⟩
  · exact .inl h0
  · exact .inr ⟨g, cap, cur, hv, Nat.le_trans hb h5, r⟩
theorem PI.next {w2 wr w' : World} {v : Value} {L : List Q} (h : PI w2 wr v L) (hb : Below wr.heap.size wr w') : PI w2 w' v L :=
  ⟨row_next h.1 hb, h.2.trans (hb.mono h.2.size)⟩
end Go.Proofs.Ytgbnmnkgelklbaa.Iso
