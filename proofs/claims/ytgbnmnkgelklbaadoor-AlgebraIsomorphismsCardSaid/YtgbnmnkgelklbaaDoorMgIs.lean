/-
  Plain mathematics of the search for an isomorphism: the elements of the box in their order, and the first pair of two lists.
  WALKS: lists of elements that a call made.
-/
import Derived.Test.YtgbnmnkgelklbaaDoorAlO
import Derived.Test.YtgbnmnkgelklbaaDoorMgRm
namespace Go.Proofs.YtgbnmnkgelklbaaDoor.Iso
open Alm
set_option linter.unusedVariables false
/-- the elements of the box with the denominator d that pass f: z, y, x, denominators up to a number -/
def Zl (f : Q → Bool) (d x y : Int) (k : Nat) : List Q := ((List.range k).map fun i : Nat => (⟨0, x, y, (i : Int) - 8, d⟩ : Q)).filter f
def Yl (f : Q → Bool) (d x : Int) (k : Nat) : List Q := (List.range k).flatMap fun j : Nat => Zl f d x ((j : Int) - 8) 17
def Xl (f : Q → Bool) (d : Int) (k : Nat) : List Q := (List.range k).flatMap fun i : Nat => Yl f d ((i : Int) - 8) 17
def Dl (f : Q → Bool) (k : Nat) : List Q := (List.range k).flatMap fun e : Nat => Xl f ((e : Int) + 1) 17
theorem Zl_no {f : Q → Bool} {d x y : Int} {k : Nat} (h : f ⟨0, x, y, (k : Int) - 8, d⟩ = false) : Zl f d x y (k + 1) = Zl f d x y k := by
  unfold Zl; rw [List.range_succ]; simp [h]
theorem Zl_yes {f : Q → Bool} {d x y : Int} {k : Nat} (h : f ⟨0, x, y, (k : Int) - 8, d⟩ = true) : Zl f d x y (k + 1) = Zl f d x y k ++ [⟨0, x, y, (k : Int) - 8, d⟩] := by
  unfold Zl; rw [List.range_succ]; simp [h]
theorem Yl_succ (f : Q → Bool) (d x : Int) (k : Nat) : Yl f d x (k + 1) = Yl f d x k ++ Zl f d x ((k : Int) - 8) 17 := by
  unfold Yl; rw [List.range_succ]; simp
theorem Xl_succ (f : Q → Bool) (d : Int) (k : Nat) : Xl f d (k + 1) = Xl f d k ++ Yl f d ((k : Int) - 8) 17 := by
  unfold Xl; rw [List.range_succ]; simp
theorem Dl_succ (f : Q → Bool) (k : Nat) : Dl f (k + 1) = Dl f k ++ Xl f ((k : Int) + 1) 17 := by
  unfold Dl; rw [List.range_succ]; simp
theorem Zl_zero (f : Q → Bool) (d x y : Int) : Zl f d x y 0 = [] := rfl
theorem Yl_zero (f : Q → Bool) (d x : Int) : Yl f d x 0 = [] := rfl
theorem Xl_zero (f : Q → Bool) (d : Int) : Xl f d 0 = [] := rfl
theorem Dl_zero (f : Q → Bool) : Dl f 0 = [] := rfl
theorem Zl_filter (f g : Q → Bool) (d x y : Int) (k : Nat) : (Zl f d x y k).filter g = Zl (fun q => f q && g q) d x y k := by
  unfold Zl; rw [List.filter_filter]; congr 1; funext q; exact Bool.and_comm _ _
theorem Yl_filter (f g : Q → Bool) (d x : Int) (k : Nat) : (Yl f d x k).filter g = Yl (fun q => f q && g q) d x k := by
  unfold Yl; rw [List.filter_flatMap]; congr 1; funext j; exact Zl_filter ..
theorem Xl_filter (f g : Q → Bool) (d : Int) (k : Nat) : (Xl f d k).filter g = Xl (fun q => f q && g q) d k := by
  unfold Xl; rw [List.filter_flatMap]; congr 1; funext j; exact Yl_filter ..
theorem Dl_filter (f g : Q → Bool) (k : Nat) : (Dl f k).filter g = Dl (fun q => f q && g q) k := by
  unfold Dl; rw [List.filter_flatMap]; congr 1; funext j; exact Xl_filter ..
theorem Zl_len (f : Q → Bool) (d x y : Int) (k : Nat) : (Zl f d x y k).length ≤ k := by
  unfold Zl; exact Nat.le_trans (List.length_filter_le _ _) (by simp)
theorem Yl_len (f : Q → Bool) (d x : Int) : ∀ k : Nat, (Yl f d x k).length ≤ k * 17
  | 0 => by simp [Yl_zero]
  | k + 1 => by rw [Yl_succ, List.length_append]; have := Yl_len f d x k; have := Zl_len f d x ((k : Int) - 8) 17; omega
theorem Xl_len (f : Q → Bool) (d : Int) : ∀ k : Nat, (Xl f d k).length ≤ k * 289
  | 0 => by simp [Xl_zero]
  | k + 1 => by rw [Xl_succ, List.length_append]; have := Xl_len f d k; have := Yl_len f d ((k : Int) - 8) 17; omega
theorem Dl_len (f : Q → Bool) : ∀ k : Nat, (Dl f k).length ≤ k * 4913
  | 0 => by simp [Dl_zero]
  | k + 1 => by rw [Dl_succ, List.length_append]; have := Dl_len f k; have := Xl_len f ((k : Int) + 1) 17; omega
theorem Dl_mem {f : Q → Bool} {k : Nat} {q : Q} (h : q ∈ Dl f k) : q.w = 0 ∧ (-8 ≤ q.x ∧ q.x ≤ 8) ∧ (-8 ≤ q.y ∧ q.y ≤ 8) ∧ (-8 ≤ q.z ∧ q.z ≤ 8) ∧ (1 ≤ q.d ∧ q.d ≤ k) ∧ f q = true := by
  unfold Dl at h
  obtain ⟨e, he, h⟩ := List.mem_flatMap.1 h
  unfold Xl at h
  obtain ⟨i, hi, h⟩ := List.mem_flatMap.1 h
  unfold Yl at h
  obtain ⟨j, hj, h⟩ := List.mem_flatMap.1 h
  unfold Zl at h
  obtain ⟨h, hf⟩ := List.mem_filter.1 h
  obtain ⟨t, ht, rfl⟩ := List.mem_map.1 h
  rw [List.mem_range] at he hi hj ht
  exact ⟨rfl, ⟨by simp only; omega, by simp only; omega⟩, ⟨by simp only; omega, by simp only; omega⟩, ⟨by simp only; omega, by simp only; omega⟩, ⟨by simp only; omega, by simp only; omega⟩, hf⟩
/-- an element of the box in lowest terms -/
def lowB (q : Q) : Bool := g5 q.w q.x q.y q.z q.d == 1
theorem low_self (q : Q) (hd : 0 < q.d) : lowB q = true ↔ q.low = q := by
  unfold lowB
  rw [beq_iff_eq]
  constructor
  · intro h
    have e : gs q.w q.x q.y q.z q.d = 1 := by unfold gs sgn; rw [if_neg (by omega), h]; rfl
    unfold Q.low
    rw [e]
    simp only [Int.tdiv_one]
  · intro h
    have hp := g5_pos (w := q.w) (x := q.x) (y := q.y) (z := q.z) (d := q.d) (by omega)
    have e : gs q.w q.x q.y q.z q.d = (g5 q.w q.x q.y q.z q.d : Int) := by unfold gs sgn; rw [if_neg (by omega)]
    have hd' : q.d.tdiv (gs q.w q.x q.y q.z q.d) = q.d := congrArg Q.d h
    obtain ⟨k, hk⟩ := (gs_dvd q.w q.x q.y q.z q.d).2.2.2.2
    generalize gs q.w q.x q.y q.z q.d = g at *
    have h0 : g ≠ 0 := by omega
    rw [hk, Int.mul_tdiv_cancel_left _ h0] at hd'
    have : k = g * k := hd'
    have hk0 : 0 < k := by
      rcases Int.lt_trichotomy k 0 with h1 | h1 | h1
      · have := Int.mul_neg_of_pos_of_neg (a := g) (b := k) (by omega) h1; omega
      · subst h1; omega
      · exact h1
    have : g = 1 := by
      have e1 : 1 * k = g * k := by omega
      exact (Int.eq_of_mul_eq_mul_right (by omega) e1).symm
    omega
/-- the first pair -/
def ff (t : Q → Q → Bool) (l m : List Q) : Option (Q × Q) := l.findSome? fun p => (m.find? (t p)).map fun q => (p, q)
theorem ff_none {t : Q → Q → Bool} {l m : List Q} (h : ∀ i p, i < l.length → l[i]? = some p → m.find? (t p) = none) : ff t l m = none := by
  unfold ff
  rw [List.findSome?_eq_none_iff]
  intro p hp
  obtain ⟨i, hi⟩ := List.getElem?_of_mem hp
  rw [h i p (List.getElem?_eq_some_iff.1 hi).1 hi]; rfl
theorem find_none {t : Q → Bool} {m : List Q} (h : ∀ j q, j < m.length → m[j]? = some q → t q = false) : m.find? t = none := by
  rw [List.find?_eq_none]
  intro q hq
  obtain ⟨j, hj⟩ := List.getElem?_of_mem hq
  rw [h j q (List.getElem?_eq_some_iff.1 hj).1 hj]; simp
theorem find_some {t : Q → Bool} : ∀ {m : List Q} {j : Nat} {q : Q}, m[j]? = some q → t q = true → (∀ i r, i < j → m[i]? = some r → t r = false) → m.find? t = some q
  | [], j, q, h, _, _ => by simp at h
  | a :: m, 0, q, h, ht, _ => by
    simp at h; subst h; simp [ht]
  | a :: m, j + 1, q, h, ht, hn => by
    have h0 := hn 0 a (by omega) rfl
    rw [List.find?_cons_of_neg (by rw [h0]; simp)]
    exact find_some (by simpa using h) ht fun i r hi hr => hn (i + 1) r (by omega) (by simpa using hr)
theorem ff_some {t : Q → Q → Bool} : ∀ {l m : List Q} {i : Nat} {p q : Q}, l[i]? = some p → m.find? (t p) = some q → (∀ k r, k < i → l[k]? = some r → m.find? (t r) = none) → ff t l m = some (p, q)
  | [], m, i, p, q, h, _, _ => by simp at h
  | a :: l, m, 0, p, q, h, ht, _ => by
    simp at h; subst h; simp [ff, ht]
  | a :: l, m, i + 1, p, q, h, ht, hn => by
    have h0 := hn 0 a (by omega) rfl
    have : ff t l m = some (p, q) := ff_some (by simpa using h) ht fun k r hk hr => hn (k + 1) r (by omega) (by simpa using hr)
    unfold ff at this ⊢
    rw [List.findSome?_cons, h0]; exact this
theorem ff_mem {t : Q → Q → Bool} {l m : List Q} {p q : Q} (h : ff t l m = some (p, q)) : p ∈ l ∧ q ∈ m ∧ t p q = true := by
  unfold ff at h
  obtain ⟨r, hr, h⟩ := List.exists_of_findSome?_eq_some h
  cases hf : m.find? (t r) with
  | none => rw [hf] at h; cases h
  | some s =>
    rw [hf] at h
    simp only [Option.map_some, Option.some.injEq, Prod.mk.injEq] at h
    obtain ⟨rfl, rfl⟩ := h
    exact ⟨hr, List.mem_of_find?_eq_some hf, List.find?_some hf⟩
end Go.Proofs.YtgbnmnkgelklbaaDoor.Iso
namespace Go.Proofs.YtgbnmnkgelklbaaDoor.Iso
open Go.RowKit
open Alm
set_option linter.unusedVariables false
set_option linter.unusedSimpArgs false
set_option maxRecDepth 100000
def flatQ : List Q → List Value
  | [] => []
  | q :: l => .int .i64 q.w :: .int .i64 q.x :: .int .i64 q.y :: .int .i64 q.z :: .int .i64 q.d :: flatQ l
theorem flatQ_app : ∀ l m : List Q, flatQ (l ++ m) = flatQ l ++ flatQ m
  | [], m => rfl
  | q :: l, m => by simp only [List.cons_append, flatQ]; rw [flatQ_app l m]
theorem flatQ_len : ∀ l : List Q, (flatQ l).length = l.length * 5
  | [] => rfl
  | q :: l => by simp only [flatQ, List.length_cons]; rw [flatQ_len l]; omega
theorem flatQ_get : ∀ (l : List Q) (i : Nat) (q : Q), l[i]? = some q → (flatQ l)[i * 5]? = some (.int .i64 q.w) ∧ (flatQ l)[i * 5 + 1]? = some (.int .i64 q.x) ∧ (flatQ l)[i * 5 + 2]? = some (.int .i64 q.y) ∧ (flatQ l)[i * 5 + 3]? = some (.int .i64 q.z) ∧ (flatQ l)[i * 5 + 4]? = some (.int .i64 q.d)
  | [], i, q, h => by simp at h
  | r :: l, 0, q, h => by simp at h; subst h; exact ⟨rfl, rfl, rfl, rfl, rfl⟩
  | r :: l, i + 1, q, h => by
    have := flatQ_get l i q (by simpa using h)
    have e1 : (i + 1) * 5 = i * 5 + 5 := by omega
    rw [e1]; exact this
theorem infoQ : (Tryd.prog.info? 39).map (fun i => (i.zero, i.size, i.bytes)) = some (some (.agg #[.int .i64 0, .int .i64 0, .int .i64 0, .int .i64 0, .int .i64 0]), 5, 40) := by kernel_rfl
theorem five_new (w : World) (a b c d e : Value) (T : TypeId) (n : Nat) (hn : n = w.heap.size) : ∀ (j : Nat) (x : Value), [a, b, c, d, e][j]? = some x → (w.alloc (.cells #[a, b, c, d, e] T)).cell? ((⟨n, 0, none⟩ : Addr).add j) = some x := by
  subst hn
  intro j x hj
  match j with
  | 0 => simp at hj; subst hj; simp [go_sem]
  | 1 => simp at hj; subst hj; simp [go_sem]
  | 2 => simp at hj; subst hj; simp [go_sem]
  | 3 => simp at hj; subst hj; simp [go_sem]
  | 4 => simp at hj; subst hj; simp [go_sem]
  | j + 5 => simp at hj
/-- a list of elements that the call made -/
def LQ (B : Nat) (w : World) (A : Option Addr) (c : Nat) (L : List Q) : Prop := w.ownsRow B 39 5 (.slice A L.length c) L.length (flatQ L)
theorem LQ.of {B : Nat} {w : World} {v : Value} {L : List Q} (h : w.ownsRow B 39 5 v L.length (flatQ L)) : ∃ A c, v = .slice A L.length c ∧ LQ B w A c L ∧ c ≤ 9223372036854775807 ∧ L.length ≤ c := by
  have h' := h
  rcases h.2 with ⟨rfl, h0⟩ | ⟨g, cap, cur, rfl, hb, hg, h1, h2, h3, h4⟩
  · exact ⟨none, 0, by rw [h0], by unfold LQ; rw [h0]; rw [h0] at h'; exact h', by omega, by omega⟩
  · exact ⟨_, cap, rfl, h', by unfold maxLen at h2; omega, h1⟩
theorem LQ.at_ {B : Nat} {w : World} {A : Option Addr} {c : Nat} {L : List Q} (h : LQ B w A c L) {j : Nat} {q : Q} (hj : L[j]? = some q) : ∃ b, A = some ⟨b, 0, none⟩ ∧ (w.cell? ⟨b, j * 5, none⟩ = some (.int .i64 q.w) ∧ w.cell? ⟨b, j * 5 + 1, none⟩ = some (.int .i64 q.x) ∧ w.cell? ⟨b, j * 5 + 2, none⟩ = some (.int .i64 q.y) ∧ w.cell? ⟨b, j * 5 + 3, none⟩ = some (.int .i64 q.z) ∧ w.cell? ⟨b, j * 5 + 4, none⟩ = some (.int .i64 q.d)) ∧ B ≤ b ∧ b < w.heap.size := by
  have hjl : j < L.length := (List.getElem?_eq_some_iff.1 hj).1
  rcases h.2 with ⟨h0, h1⟩ | ⟨g, cap, cur, hv, hb, hg, h1, h2, h3, h4⟩
  · omega
  · injection hv with e1 e2 e3
    subst e1 e3
    obtain ⟨f0, f1, f2, f3, f4⟩ := flatQ_get L j q hj
    refine ⟨g, rfl, ⟨?_, ?_, ?_, ?_, ?_⟩, hb, (Array.getElem?_eq_some_iff.1 hg).1⟩
    · rw [World.ownsRow.cellAt h (j * 5) (by omega)]; exact f0
    · rw [World.ownsRow.cellAt h (j * 5 + 1) (by omega)]; exact f1
    · rw [World.ownsRow.cellAt h (j * 5 + 2) (by omega)]; exact f2
    · rw [World.ownsRow.cellAt h (j * 5 + 3) (by omega)]; exact f3
    · rw [World.ownsRow.cellAt h (j * 5 + 4) (by omega)]; exact f4
theorem LQ.below {B B' : Nat} {w w' : World} {A : Option Addr} {c : Nat} {L : List Q} (h : LQ B w A c L) (hb : Below B' w w') (hB : ∀ a, A = some a → a.block < B') : LQ B w' A c L := by
  refine ⟨h.1, ?_⟩
  rcases h.2 with ⟨h0, h1⟩ | ⟨g, cap, cur, hv, h5, hg, h1, h2, h3, h4⟩
  · exact .inl ⟨h0, h1⟩
  · injection hv with e1 e2 e3
    subst e1 e3
    exact .inr ⟨g, c, cur, rfl, h5, (hb.block g (hB _ rfl)).trans hg, h1, h2, h3, h4⟩
theorem LQ.lt {B : Nat} {w : World} {A : Option Addr} {c : Nat} {L : List Q} (h : LQ B w A c L) : ∀ a, A = some a → a.block < w.heap.size := by
  intro a ha
  subst ha
  rcases h.2 with ⟨h0, h1⟩ | ⟨g, cap, cur, hv, h5, hg, h1, h2, h3, h4⟩
  · cases h0
  · injection hv with e1 e2 e3
    injection e1 with e1
    subst e1
    exact (Array.getElem?_eq_some_iff.1 hg).1
theorem LQ.next {B : Nat} {w w' : World} {A : Option Addr} {c : Nat} {L : List Q} (h : LQ B w A c L) (hb : Below w.heap.size w w') : LQ B w' A c L := LQ.below h hb (LQ.lt h)
end Go.Proofs.YtgbnmnkgelklbaaDoor.Iso
