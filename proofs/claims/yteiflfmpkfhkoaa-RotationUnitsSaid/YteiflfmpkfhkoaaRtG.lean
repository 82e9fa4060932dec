/-
  WALKS: the canonical quaternions of a norm: what the closure keeps.
-/
import Derived.Test.YteiflfmpkfhkoaaRt7
import Derived.Test.YteiflfmpkfhkoaaRtF
namespace Go.Proofs.Yteiflfmpkfhkoaa.Rt
open Go.RowKit
open Alm Hwm Al
set_option linter.unusedVariables false
set_option linter.unusedSimpArgs false
set_option maxRecDepth 100000
def eqH (a b : H) : Bool := a.w == b.w && (a.x == b.x && (a.y == b.y && a.z == b.z))
theorem eqH_iff {a b : H} : eqH a b = true ↔ a = b := by
  unfold eqH
  simp only [Bool.and_eq_true, beq_iff_eq]
  constructor
  · rintro ⟨h1, h2, h3, h4⟩; exact H.ext' h1 h2 h3 h4
  · rintro rfl; exact ⟨rfl, rfl, rfl, rfl⟩
theorem Try.eqHw (a b c d x y z t : Int) (w : World) : (Op.equalIn 10000 97 (.agg #[.int .i64 a, .int .i64 b, .int .i64 c, .int .i64 d]) (.agg #[.int .i64 x, .int .i64 y, .int .i64 z, .int .i64 t])).run Try.prog w = .ok (a == x && (b == y && (c == z && d == t))) w := by
  by_cases g0 : a = x <;> by_cases g1 : b = y <;> by_cases g2 : c = z <;> by_cases g3 : d = t <;> simp [go_sem, g0, g1, g2, g3]
/-- what canonicalOf's variables hold: the units, and a list that grows -/
structure CI (w0 w2 wr : World) (bu bl : Nat) (A : Option Addr) (c : Nat) (v : Value) (L : List H) : Prop where
  u : wr.heap[bu]? = some (.cells #[.slice A U24.length c] 107 (0, 0))
  hu : LH 97 w0.heap.size wr A c U24
  l : wr.heap[bl]? = some (.cells #[v] 107 (0, 0))
  row : wr.ownsRow w2.heap.size 97 4 v L.length (flatH L)
  bel : Below w0.heap.size w0 wr
  lu : ∀ a, A = some a → a.block < w2.heap.size
  nu : bu < w2.heap.size
  nl : bl < w2.heap.size
  ne : bu ≠ bl
  z0 : w0.heap.size ≤ bl
  z2 : w2.heap.size ≤ wr.heap.size
  hc : c ≤ 9223372036854775807
  hl : U24.length ≤ c
theorem CI.next {w0 w2 wr w' : World} {bu bl : Nat} {A : Option Addr} {c : Nat} {v : Value} {L : List H} (h : CI w0 w2 wr bu bl A c v L) (hb : Below wr.heap.size wr w') : CI w0 w2 w' bu bl A c v L :=
  ⟨(hb.block bu (lt_of_block h.u)).trans h.u, LH.next h.hu hb, (hb.block bl (lt_of_block h.l)).trans h.l, row_next h.row hb, h.bel.trans (hb.mono h.bel.size), h.lu, h.nu, h.nl, h.ne, h.z0, Nat.le_trans h.z2 hb.size, h.hc, h.hl⟩
/-- the list grows by one, and is stored -/
theorem CI.push {w0 w2 wr wn : World} {bu bl : Nat} {A : Option Addr} {c : Nat} {v v' : Value} {L : List H} (h : CI w0 w2 wr bu bl A c v L) {x : H}
    (hrow : wn.ownsRow w2.heap.size 97 4 v' (L ++ [x]).length (flatH (L ++ [x]))) (hg : wr.grownBy wn v.ownBlock) : CI w0 w2 (wn.setCell ⟨bl, 0, none⟩ v') bu bl A c v' (L ++ [x]) := by
  have lt := fun j hj => h.row.lt j hj
  have ltn := fun j hj => hrow.lt j hj
  have nb : ∀ k, k < w2.heap.size → some k ≠ v.ownBlock := fun k hk e => by have := (lt k e.symm).1; omega
  have nbn : ∀ k, k < w2.heap.size → v'.ownBlock ≠ some k := fun k hk e => by have := (ltn k e).1; omega
  have hu2 : LH 97 w0.heap.size wn A c U24 := by
    unfold LH
    refine h.hu.kept hg ?_
    rcases A with _ | a
    · exact .inl rfl
    · refine .inr fun e => ?_
      have hs := h.hu.2
      rcases hs with ⟨h0, h1⟩ | ⟨g, cap, cur, hv, h5, hgg, r⟩
      · cases h0
      · injection hv with e1 e2 e3
        injection e1 with e1
        subst e1
        exact nb g (h.lu _ rfl) (by rw [← e]; rfl)
  have uu : wn.heap[bu]? = _ := (hg.block bu (lt_of_block h.u) (nb bu h.nu)).trans h.u
  have ll : wn.heap[bl]? = _ := (hg.block bl (lt_of_block h.l) (nb bl h.nl)).trans h.l
  refine ⟨?_, ?_, one_setCell ll, ownsRow_setCell_other hrow (nbn bl h.nl) _, ?_, h.lu, h.nu, h.nl, h.ne, h.z0, ?_, h.hc, h.hl⟩
  · rw [Below.heap_setCell _ _ _ _ h.ne]; exact uu
  · unfold LH
    refine ownsRow_setCell_other hu2 ?_ _
    intro e
    rcases hu2.2 with ⟨h0, h1⟩ | ⟨g, cap, cur, hv, h5, hgg, r⟩
    · rw [h0] at e; cases e
    · rw [hv] at e
      have e' : g = bl := by injection e
      subst e'
      rw [hgg] at ll
      injection ll with ll
      injection ll with l1 l2 l3
      exact absurd l2 (by decide)
  · refine Below.setCell (h.bel.grown hg h.bel.size (fun k hk => ?_)) h.z0 _
    have := (lt k hk).1
    have h3 : w0.heap.size ≤ w2.heap.size := by have := h.z0; have := h.nl; omega
    omega
  · have := hg.size; have := h.z2; simp [World.setCell]; omega
end Go.Proofs.Yteiflfmpkfhkoaa.Rt
