/-
  Two lists of elements that grow side by side, each kept in a box.
  WALK: Isomorphism, where there is one: the search.
-/
import Derived.Test.YtgbnmnkgelklbaaMgIp
import Derived.Test.YtgbnmnkgelklbaaMgIw
import Derived.Test.YtgbnmnkgelklbaaAm1
namespace Go.Proofs.Ytgbnmnkgelklbaa.Iso
open Go.RowKit Go.Shelf
open Alm Al
set_option linter.unusedVariables false
set_option linter.unusedSimpArgs false
set_option maxRecDepth 100000
/-- blocks of cells lie as they lay -/
def CK (W W' : World) : Prop := ∀ (g : Nat) (o : Obj), W.heap[g]? = some o → o.isCells = true → W'.heap[g]? = some o
theorem CK.below {W W' : World} (hb : Below W.heap.size W W') : CK W W' := fun g o h _ => (hb.block g (Array.getElem?_eq_some_iff.1 h).1).trans h
theorem CK.grown {W W' : World} {row : Option Nat} (hg : W.grownBy W' row) (hr : ∀ r, row = some r → ∃ o : Obj, W.heap[r]? = some o ∧ o.isCells = false) : CK W W' := fun g o h hc => by
  refine (hg.block g (Array.getElem?_eq_some_iff.1 h).1 fun e => ?_).trans h
  obtain ⟨o', h', hc'⟩ := hr g e.symm
  rw [h] at h'
  cases h'
  rw [hc] at hc'
  cases hc'
theorem CK.alloc (W : World) (o : Obj) : CK W (W.alloc o) := CK.below ((Below.refl _ W).alloc (Nat.le_refl _) o)
theorem cells_at {W : World} {a : Addr} {v : Value} (h : W.cell? a = some v) : ∃ o : Obj, W.heap[a.block]? = some o ∧ o.isCells = true := cells_of_cell h
theorem CK.cell {W W' : World} (hc : CK W W') {a : Addr} {v : Value} (h : W.cell? a = some v) : W'.cell? a = W.cell? a ∧ W'.frozen? a = W.frozen? a := by
  obtain ⟨o, ho, hoc⟩ := cells_at h
  have e : W'.heap[a.block]? = W.heap[a.block]? := (hc _ _ ho hoc).trans ho.symm
  exact ⟨World.cell?_of_block e, World.frozen?_of_block e⟩
theorem KL.ck {w0 W W' : World} {cs : List (Nat × Nat × Value)} {fs : List (Nat × Nat)} (h : KL w0 cs fs W) (hc : CK W W') (hb : Below w0.heap.size w0 W') : KL w0 cs fs W' :=
  ⟨fun x hx => (hc.cell (h.c x hx)).1.trans (h.c x hx), fun x hx => by rw [(hc.cell (h.d x hx)).1]; exact h.g x hx, fun x hx => (hc.cell (h.d x hx)).2.trans (h.f x hx), hb⟩
theorem KL.belowN {w0 W W' : World} {n0 : Nat} {cs : List (Nat × Nat × Value)} {fs : List (Nat × Nat)} (h : KL w0 cs fs W) (hz : ∀ x ∈ cs, x.1 < n0) (hf : ∀ x ∈ fs, x.1 < n0) (hn : w0.heap.size ≤ n0) (hb : Below n0 W W') : KL w0 cs fs W' :=
  ⟨fun x hx => (hb.cell (p := ⟨x.1, x.2.1, none⟩) (hz x hx)).trans (h.c x hx), fun x hx => by rw [hb.cell (p := ⟨x.1, x.2, none⟩) (hf x hx)]; exact h.g x hx,
    fun x hx => (hb.frozen (p := ⟨x.1, x.2, none⟩) (hf x hx)).trans (h.f x hx), h.bel.trans (hb.mono hn)⟩
theorem row_ck {B : Nat} {e : TypeId} {size : Nat} {v : Value} {n : Nat} {xs : List Value} {W W' : World} (h : W.ownsRow B e size v n xs) (hc : CK W W') : W'.ownsRow B e size v n xs := by
  refine ⟨h.1, ?_⟩
  rcases h.2 with h0 | ⟨g, cap, cur, hv, h5, hg, r⟩
  · exact .inl h0
  · exact .inr ⟨g, cap, cur, hv, h5, hc g _ hg rfl, r⟩
theorem box_ck {W W' : World} {B : Nat} {t : TypeId} {v : Value} (h : Boxed W B t v) (hc : CK W W') : Boxed W' B t v := hc B _ h rfl
structure TL (n0 : Nat) (W : World) (v1 v2 : Value) (L1 L2 : List Q) : Prop where
  b1 : Boxed W n0 79 v1
  b2 : Boxed W (n0 + 1) 79 v2
  r1 : W.ownsRow n0 35 5 v1 L1.length (flatQ L1)
  r2 : W.ownsRow n0 35 5 v2 L2.length (flatQ L2)
  ne : ∀ g, v1.ownBlock = some g → v2.ownBlock = some g → False
theorem TL.ck {n0 : Nat} {W W' : World} {v1 v2 : Value} {L1 L2 : List Q} (h : TL n0 W v1 v2 L1 L2) (hc : CK W W') : TL n0 W' v1 v2 L1 L2 :=
  ⟨box_ck h.b1 hc, box_ck h.b2 hc, row_ck h.r1 hc, row_ck h.r2 hc, h.ne⟩
theorem KeepsOthers.below {W W' : World} (hb : Below W.heap.size W W') : KeepsOthers W W' := ⟨hb.size, fun k o h _ => (hb.block k (Array.getElem?_eq_some_iff.1 h).1).trans h⟩
theorem own_keep {W W' : World} {n0 : Nat} {v v' : Value} {L : List Q} {xs : List Value} {m : Nat} {tmp : Obj} {row : Option Nat} (h : W.ownsRow n0 35 5 v L.length (flatQ L)) (hg : (W.alloc tmp).grownBy W' row) (hne : ∀ g, row = some g → v.ownBlock = some g → False) : W'.ownsRow n0 35 5 v L.length (flatQ L) := by
  refine (h.alloc tmp).kept hg ?_
  cases hv : v.ownBlock with
  | none => exact .inl rfl
  | some g => exact .inr fun e => hne g e.symm hv
/-- the block of an element -/
def QBx (W : World) (b : Nat) (q : Q) : Prop := W.heap[b]? = some (.cells #[.int .i64 q.w, .int .i64 q.x, .int .i64 q.y, .int .i64 q.z, .int .i64 q.d] 35 (0, 0))
theorem QBx.ck {W W' : World} {b : Nat} {q : Q} (h : QBx W b q) (hc : CK W W') : QBx W' b q := hc b _ h rfl
theorem QBx.cells {W : World} {b : Nat} {q : Q} (h : QBx W b q) : W.cell? ⟨b, 0, none⟩ = some (.int .i64 q.w) ∧ W.cell? ⟨b, 1, none⟩ = some (.int .i64 q.x) ∧ W.cell? ⟨b, 2, none⟩ = some (.int .i64 q.y) ∧ W.cell? ⟨b, 3, none⟩ = some (.int .i64 q.z) ∧ W.cell? ⟨b, 4, none⟩ = some (.int .i64 q.d) := by
  have h' : W.heap[b]? = _ := h
  simp [World.cell?, h']
theorem QBx.lt {W : World} {b : Nat} {q : Q} (h : QBx W b q) : b < W.heap.size := (Array.getElem?_eq_some_iff.1 h).1
/-- behind an append to one of the two lists -/
theorem QBx.app {n0 : Nat} {W w1 : World} {v : Value} {L : List Q} {q : Q} {b B : Nat} {tmp : Obj} {v' : Value} (h : QBx W b q) (hr : W.ownsRow n0 35 5 v L.length (flatQ L)) (hne : ∀ g, v.ownBlock = some g → g ≠ b) (hg : (W.alloc tmp).grownBy w1 v.ownBlock) (hB : b ≠ B) : QBx (w1.setCell ⟨B, 0, none⟩ v') b q := by
  have h1 : (W.alloc tmp).heap[b]? = _ := (CK.alloc W tmp) b _ h rfl
  have h2 := (hg.block b (Array.getElem?_eq_some_iff.1 h1).1 fun e => hne b e.symm rfl).trans h1
  exact ((grownBy_setCell' w1 B v').block b (Array.getElem?_eq_some_iff.1 h2).1 fun e => hB (by injection e)).trans h2
theorem TL.app1 {n0 : Nat} {W w1 : World} {v1 v2 v' : Value} {L1 L2 : List Q} {q : Q} {tmp : Obj} {Bx : Nat} (h : TL n0 W v1 v2 L1 L2) (hq : QBx W Bx q) (hq1 : ∀ g, v1.ownBlock = some g → g ≠ Bx) (hBx : n0 + 2 ≤ Bx) (hn : n0 ≤ W.heap.size)
    (hown : w1.ownsRow n0 35 5 v' (L1 ++ [q]).length (flatQ (L1 ++ [q]))) (hg : (W.alloc tmp).grownBy w1 v1.ownBlock) (hat : v'.ownBlock = v1.ownBlock ∨ v'.ownBlock = some (W.alloc tmp).heap.size) :
    Boxed w1 n0 79 v1 ∧ TL n0 (w1.setCell ⟨n0, 0, none⟩ v') v' v2 (L1 ++ [q]) L2 ∧ KeepsOthers W (w1.setCell ⟨n0, 0, none⟩ v') ∧ Below n0 W (w1.setCell ⟨n0, 0, none⟩ v') ∧ QBx (w1.setCell ⟨n0, 0, none⟩ v') Bx q := by
  obtain ⟨h1, h2, h3, h4, h5⟩ := h.b1.appended (by decide) h.r1 hn (Nat.le_refl _) hown hg
  have e2 := (h.b2.alloc tmp).kept hg (h.b2.not_row (by decide) h.r1)
  have k2 : w1.ownsRow n0 35 5 v2 L2.length (flatQ L2) := own_keep (v' := v') (xs := []) (m := 0) h.r2 hg fun g e1 e2 => h.ne g e1 e2
  refine ⟨h1, ⟨h2, e2.other (by omega) v', h3, k2.kept (grownBy_setCell' w1 n0 v') (.inr (h1.not_row (by decide) k2).symm), fun g eg1 eg2 => ?_⟩, h4, h5, hq.app h.r1 hq1 hg (by omega)⟩
  rcases hat with hat | hat
  · exact h.ne g (by rw [← hat]; exact eg1) eg2
  · have := (h.r2.lt g eg2).2
    rw [hat] at eg1
    injection eg1 with eg1
    simp at eg1
    omega
theorem TL.app2 {n0 : Nat} {W w1 : World} {v1 v2 v' : Value} {L1 L2 : List Q} {q : Q} {tmp : Obj} (h : TL n0 W v1 v2 L1 L2) (hn : n0 + 1 ≤ W.heap.size)
    (hown : w1.ownsRow n0 35 5 v' (L2 ++ [q]).length (flatQ (L2 ++ [q]))) (hg : (W.alloc tmp).grownBy w1 v2.ownBlock) (hat : v'.ownBlock = v2.ownBlock ∨ v'.ownBlock = some (W.alloc tmp).heap.size) :
    Boxed w1 (n0 + 1) 79 v2 ∧ TL n0 (w1.setCell ⟨n0 + 1, 0, none⟩ v') v1 v' L1 (L2 ++ [q]) ∧ KeepsOthers W (w1.setCell ⟨n0 + 1, 0, none⟩ v') ∧ Below n0 W (w1.setCell ⟨n0 + 1, 0, none⟩ v') := by
  obtain ⟨h1, h2, h3, h4, h5⟩ := h.b2.appended (by decide) h.r2 (by omega) (by omega) hown hg
  have e2 := (h.b1.alloc tmp).kept hg (h.b1.not_row (by decide) h.r2)
  have k2 : w1.ownsRow n0 35 5 v1 L1.length (flatQ L1) := own_keep (v' := v') (xs := []) (m := 0) h.r1 hg fun g e1 e2 => h.ne g e2 e1
  refine ⟨h1, ⟨e2.other (by omega) v', h2, k2.kept (grownBy_setCell' w1 (n0 + 1) v') (.inr (h1.not_row (by decide) k2).symm), h3, fun g eg1 eg2 => ?_⟩, h4, h5⟩
  rcases hat with hat | hat
  · exact h.ne g eg1 (by rw [← hat]; exact eg2)
  · have := (h.r1.lt g eg1).2
    rw [hat] at eg2
    injection eg2 with eg2
    simp at eg2
    omega
/-- five cells, written anew -/
theorem KL.put5n {w0 : World} {cs : List (Nat × Nat × Value)} {fs : List (Nat × Nat)} {w : World} {p : Nat} (a' b' c' d' e' : Int) (h : KL w0 cs fs w) (hf : (p, 0) ∈ fs ∧ (p, 1) ∈ fs ∧ (p, 2) ∈ fs ∧ (p, 3) ∈ fs ∧ (p, 4) ∈ fs) (hp : ∀ x ∈ cs, p ≠ x.1) (hw : w0.heap.size ≤ p) :
    KL w0 ((p, 0, .int .i64 a') :: (p, 1, .int .i64 b') :: (p, 2, .int .i64 c') :: (p, 3, .int .i64 d') :: (p, 4, .int .i64 e') :: cs) fs (((((w.setCell ⟨p, 0, none⟩ (.int .i64 a')).setCell ⟨p, 1, none⟩ (.int .i64 b')).setCell ⟨p, 2, none⟩ (.int .i64 c')).setCell ⟨p, 3, none⟩ (.int .i64 d')).setCell ⟨p, 4, none⟩ (.int .i64 e')) := by
  have c0 := h.d (p, 0) hf.1
  have c1 := h.d (p, 1) hf.2.1
  have c2 := h.d (p, 2) hf.2.2.1
  have c3 := h.d (p, 3) hf.2.2.2.1
  have c4 := h.d (p, 4) hf.2.2.2.2
  simp only [] at c0 c1 c2 c3 c4
  have h1 := ((((h.set p 0 (.int .i64 a') hp hw).set p 1 (.int .i64 b') hp hw).set p 2 (.int .i64 c') hp hw).set p 3 (.int .i64 d') hp hw).set p 4 (.int .i64 e') hp hw
  refine ⟨fun x hx => ?_, h1.g, h1.f, h1.bel⟩
  simp only [List.mem_cons] at hx
  rcases hx with rfl | rfl | rfl | rfl | rfl | hx
  · simp [go_sem, c0, c1, c2, c3, c4]
  · simp [go_sem, c0, c1, c2, c3, c4]
  · simp [go_sem, c0, c1, c2, c3, c4]
  · simp [go_sem, c0, c1, c2, c3, c4]
  · simp [go_sem, c0, c1, c2, c3, c4]
  · exact h1.c x hx
/-- what a walk keeps: cells, and that nothing that was there has turned -/
def K_Sf (A B C D a0 a1 a2 a3 a4 e0 e1 e2 e3 e4 : Int) (b1 b2 R S : Nat) (w w' : World) : Prop := KL w [(b1, 0, .int .i64 A), (b1, 1, .int .i64 B), (b2, 0, .int .i64 C), (b2, 1, .int .i64 D), (R, 0, .int .i64 a0), (R, 1, .int .i64 a1), (R, 2, .int .i64 a2), (R, 3, .int .i64 a3), (R, 4, .int .i64 a4), (S, 0, .int .i64 e0), (S, 1, .int .i64 e1), (S, 2, .int .i64 e2), (S, 3, .int .i64 e3), (S, 4, .int .i64 e4)] [] w'
theorem K_Sf.below {A B C D a0 a1 a2 a3 a4 e0 e1 e2 e3 e4 : Int} {b1 b2 R S : Nat} {w w1 w2 : World} (hb : Below w1.heap.size w1 w2) (h : K_Sf A B C D a0 a1 a2 a3 a4 e0 e1 e2 e3 e4 b1 b2 R S w w1) : K_Sf A B C D a0 a1 a2 a3 a4 e0 e1 e2 e3 e4 b1 b2 R S w w2 := KL.below hb h
theorem K_Sf.draws {A B C D a0 a1 a2 a3 a4 e0 e1 e2 e3 e4 : Int} {b1 b2 R S : Nat} {w w1 : World} (n : Nat) (h : K_Sf A B C D a0 a1 a2 a3 a4 e0 e1 e2 e3 e4 b1 b2 R S w w1) : K_Sf A B C D a0 a1 a2 a3 a4 e0 e1 e2 e3 e4 b1 b2 R S w (w1.drewN n) := KL.draws n h
theorem K_Sf.drew {A B C D a0 a1 a2 a3 a4 e0 e1 e2 e3 e4 : Int} {b1 b2 R S : Nat} {w w1 : World} (h : K_Sf A B C D a0 a1 a2 a3 a4 e0 e1 e2 e3 e4 b1 b2 R S w w1) : K_Sf A B C D a0 a1 a2 a3 a4 e0 e1 e2 e3 e4 b1 b2 R S w w1.drew := KL.draws 1 h
theorem K_Sf.alloc {A B C D a0 a1 a2 a3 a4 e0 e1 e2 e3 e4 : Int} {b1 b2 R S : Nat} {w w1 : World} (o : Obj) (h : K_Sf A B C D a0 a1 a2 a3 a4 e0 e1 e2 e3 e4 b1 b2 R S w w1) : K_Sf A B C D a0 a1 a2 a3 a4 e0 e1 e2 e3 e4 b1 b2 R S w (w1.alloc o) := KL.alloc o h
theorem K_Sf.set {A B C D a0 a1 a2 a3 a4 e0 e1 e2 e3 e4 : Int} {b1 b2 R S : Nat} {w w1 : World} (h : K_Sf A B C D a0 a1 a2 a3 a4 e0 e1 e2 e3 e4 b1 b2 R S w w1) (b i : Nat) (v : Value) (hb : b ≠ b1 ∧ b ≠ b2 ∧ b ≠ R ∧ b ≠ S ∧ w.heap.size ≤ b) : K_Sf A B C D a0 a1 a2 a3 a4 e0 e1 e2 e3 e4 b1 b2 R S w (w1.setCell ⟨b, i, none⟩ v) :=
  KL.set h b i v (by intro x hx; simp only [List.mem_cons, List.not_mem_nil, or_false] at hx; rcases hx with rfl | rfl | rfl | rfl | rfl | rfl | rfl | rfl | rfl | rfl | rfl | rfl | rfl | rfl <;> simp only [] <;> omega) (by omega)
theorem K_Sf.bel {A B C D a0 a1 a2 a3 a4 e0 e1 e2 e3 e4 : Int} {b1 b2 R S : Nat} {w w1 : World} (h : K_Sf A B C D a0 a1 a2 a3 a4 e0 e1 e2 e3 e4 b1 b2 R S w w1) : Below w.heap.size w w1 := KL.bel h
theorem K_Sf.cells {A B C D a0 a1 a2 a3 a4 e0 e1 e2 e3 e4 : Int} {b1 b2 R S : Nat} {w w' : World} (h : K_Sf A B C D a0 a1 a2 a3 a4 e0 e1 e2 e3 e4 b1 b2 R S w w') : w'.cell? ⟨b1, 0, none⟩ = some (.int .i64 A) ∧ w'.cell? ⟨b1, 1, none⟩ = some (.int .i64 B) ∧ w'.cell? ⟨b2, 0, none⟩ = some (.int .i64 C) ∧ w'.cell? ⟨b2, 1, none⟩ = some (.int .i64 D) ∧ w'.cell? ⟨R, 0, none⟩ = some (.int .i64 a0) ∧ w'.cell? ⟨R, 1, none⟩ = some (.int .i64 a1) ∧ w'.cell? ⟨R, 2, none⟩ = some (.int .i64 a2) ∧ w'.cell? ⟨R, 3, none⟩ = some (.int .i64 a3) ∧ w'.cell? ⟨R, 4, none⟩ = some (.int .i64 a4) ∧ w'.cell? ⟨S, 0, none⟩ = some (.int .i64 e0) ∧ w'.cell? ⟨S, 1, none⟩ = some (.int .i64 e1) ∧ w'.cell? ⟨S, 2, none⟩ = some (.int .i64 e2) ∧ w'.cell? ⟨S, 3, none⟩ = some (.int .i64 e3) ∧ w'.cell? ⟨S, 4, none⟩ = some (.int .i64 e4) := ⟨h.c (b1, 0, .int .i64 A) (by simp), h.c (b1, 1, .int .i64 B) (by simp), h.c (b2, 0, .int .i64 C) (by simp), h.c (b2, 1, .int .i64 D) (by simp), h.c (R, 0, .int .i64 a0) (by simp), h.c (R, 1, .int .i64 a1) (by simp), h.c (R, 2, .int .i64 a2) (by simp), h.c (R, 3, .int .i64 a3) (by simp), h.c (R, 4, .int .i64 a4) (by simp), h.c (S, 0, .int .i64 e0) (by simp), h.c (S, 1, .int .i64 e1) (by simp), h.c (S, 2, .int .i64 e2) (by simp), h.c (S, 3, .int .i64 e3) (by simp), h.c (S, 4, .int .i64 e4) (by simp)⟩
theorem K_Sf.zs {A B C D a0 a1 a2 a3 a4 e0 e1 e2 e3 e4 : Int} {b1 b2 R S : Nat} {w w' : World} (h : K_Sf A B C D a0 a1 a2 a3 a4 e0 e1 e2 e3 e4 b1 b2 R S w w') : b1 < w'.heap.size ∧ b2 < w'.heap.size ∧ R < w'.heap.size ∧ S < w'.heap.size ∧ True := ⟨KL.z h (x := (b1, 0, .int .i64 A)) (by simp), KL.z h (x := (b2, 0, .int .i64 C)) (by simp), KL.z h (x := (R, 0, .int .i64 a0)) (by simp), KL.z h (x := (S, 0, .int .i64 e0)) (by simp), trivial⟩
theorem K_Sf.ks {A B C D a0 a1 a2 a3 a4 e0 e1 e2 e3 e4 : Int} {b1 b2 R S : Nat} {w w' : World} (h : K_Sf A B C D a0 a1 a2 a3 a4 e0 e1 e2 e3 e4 b1 b2 R S w w') : (w'.cell? ⟨b1, 0, none⟩ = some (.int .i64 A) ∧ w'.cell? ⟨b1, 1, none⟩ = some (.int .i64 B) ∧ w'.cell? ⟨b2, 0, none⟩ = some (.int .i64 C) ∧ w'.cell? ⟨b2, 1, none⟩ = some (.int .i64 D) ∧ w'.cell? ⟨R, 0, none⟩ = some (.int .i64 a0) ∧ w'.cell? ⟨R, 1, none⟩ = some (.int .i64 a1) ∧ w'.cell? ⟨R, 2, none⟩ = some (.int .i64 a2) ∧ w'.cell? ⟨R, 3, none⟩ = some (.int .i64 a3) ∧ w'.cell? ⟨R, 4, none⟩ = some (.int .i64 a4) ∧ w'.cell? ⟨S, 0, none⟩ = some (.int .i64 e0) ∧ w'.cell? ⟨S, 1, none⟩ = some (.int .i64 e1) ∧ w'.cell? ⟨S, 2, none⟩ = some (.int .i64 e2) ∧ w'.cell? ⟨S, 3, none⟩ = some (.int .i64 e3) ∧ w'.cell? ⟨S, 4, none⟩ = some (.int .i64 e4)) ∧ K_Sf A B C D a0 a1 a2 a3 a4 e0 e1 e2 e3 e4 b1 b2 R S w w' := ⟨h.cells, h⟩
theorem Sr_store {A B C D : Int} {b1 b2 R S : Nat} {w W : World} (h : K_Sr A B C D b1 b2 R S w W) (hR : w.heap.size ≤ R) (hS : w.heap.size ≤ S) (n1 : R ≠ b1) (n2 : R ≠ b2) (n3 : S ≠ b1) (n4 : S ≠ b2) (n5 : R ≠ S) (a0 a1 a2 a3 a4 e0 e1 e2 e3 e4 : Int) :
    K_Sf A B C D a0 a1 a2 a3 a4 e0 e1 e2 e3 e4 b1 b2 R S w ((((((((((W.setCell ⟨R, 0, none⟩ (.int .i64 a0)).setCell ⟨R, 1, none⟩ (.int .i64 a1)).setCell ⟨R, 2, none⟩ (.int .i64 a2)).setCell ⟨R, 3, none⟩ (.int .i64 a3)).setCell ⟨R, 4, none⟩ (.int .i64 a4)).setCell ⟨S, 0, none⟩ (.int .i64 e0)).setCell ⟨S, 1, none⟩ (.int .i64 e1)).setCell ⟨S, 2, none⟩ (.int .i64 e2)).setCell ⟨S, 3, none⟩ (.int .i64 e3)).setCell ⟨S, 4, none⟩ (.int .i64 e4)) ∧
    KeepsOthers W ((((((((((W.setCell ⟨R, 0, none⟩ (.int .i64 a0)).setCell ⟨R, 1, none⟩ (.int .i64 a1)).setCell ⟨R, 2, none⟩ (.int .i64 a2)).setCell ⟨R, 3, none⟩ (.int .i64 a3)).setCell ⟨R, 4, none⟩ (.int .i64 a4)).setCell ⟨S, 0, none⟩ (.int .i64 e0)).setCell ⟨S, 1, none⟩ (.int .i64 e1)).setCell ⟨S, 2, none⟩ (.int .i64 e2)).setCell ⟨S, 3, none⟩ (.int .i64 e3)).setCell ⟨S, 4, none⟩ (.int .i64 e4)) := by
  constructor
  · have h1 := KL.put5n (p := R) a0 a1 a2 a3 a4 h (by simp) (by intro x hx; simp only [List.mem_cons, List.not_mem_nil, or_false] at hx; rcases hx with rfl | rfl | rfl | rfl <;> assumption) hR
    have h3 := KL.put5n (p := S) e0 e1 e2 e3 e4 h1 (by simp) (by intro x hx; simp only [List.mem_cons, List.not_mem_nil, or_false] at hx; rcases hx with rfl | rfl | rfl | rfl | rfl | rfl | rfl | rfl | rfl <;> first | assumption | exact fun e => n5 e.symm) hS
    exact ⟨fun x hx => h3.c x (by simp only [List.mem_cons, List.not_mem_nil, or_false] at hx; rcases hx with rfl | rfl | rfl | rfl | rfl | rfl | rfl | rfl | rfl | rfl | rfl | rfl | rfl | rfl <;> simp), by simp, by simp, h3.bel⟩
  · repeat (first | (with_reducible exact KeepsOthers.refl _) | (with_reducible refine KeepsOthers.trans ?_ (KeepsOthers.setCell _ _ _)))
theorem heap_drew (W : World) (o : Option Obj) (k : Nat) (h : W.heap[k]? = o) : W.drew.heap[k]? = o := h
/-- the deferred calls' record, taken -/
theorem Sf_taken {A B C D a0 a1 a2 a3 a4 e0 e1 e2 e3 e4 : Int} {b1 b2 R S Dd : Nat} {w W : World} (h : K_Sf A B C D a0 a1 a2 a3 a4 e0 e1 e2 e3 e4 b1 b2 R S w W) (hd : W.heap[Dd]? = some (.deferred (some []))) (hn : w.heap.size ≤ Dd) : K_Sf A B C D a0 a1 a2 a3 a4 e0 e1 e2 e3 e4 b1 b2 R S w (W.putObj Dd (.deferred none)) :=
  KL.ck h (CK.grown (grownBy_putObj' W Dd (.deferred none)) (fun r e => by cases e; exact ⟨_, hd, rfl⟩)) ((K_Sf.bel h).grown (grownBy_putObj' W Dd (.deferred none)) (K_Sf.bel h).size (fun k e => by cases e; omega))
/-- what a search returns -/
def IsV (E : Int) : Option (Q × Q) → Value
  | none => .tuple #[.agg #[.int .i64 0, .int .i64 0, .int .i64 0, .int .i64 0, .int .i64 0], .agg #[.int .i64 0, .int .i64 0, .int .i64 0, .int .i64 0, .int .i64 0], .int .i64 E]
  | some (p, q) => .tuple #[.agg #[.int .i64 (p).w, .int .i64 (p).x, .int .i64 (p).y, .int .i64 (p).z, .int .i64 (p).d], .agg #[.int .i64 (q).w, .int .i64 (q).x, .int .i64 (q).y, .int .i64 (q).z, .int .i64 (q).d], .int .i64 0]
theorem Dl_chk {f : Q → Bool} {q : Q} (h : q ∈ Dl f 2) : chkQ q.w q.x q.y q.z q.d = 0 := by
  obtain ⟨h0, h1, h2, h3, h4, -⟩ := Dl_mem h
  rw [h0]
  exact box_chk h1 h2 h3 ⟨h4.1, by have := h4.2; omega⟩
end Go.Proofs.Ytgbnmnkgelklbaa.Iso
namespace Go.Proofs.Ytgbnmnkgelklbaa.Iso
open Go.RowKit Go.Shelf
open Alm Al
attribute [local go_sem] Oper.semAt_some
set_option linter.unusedVariables false
set_option linter.unusedSimpArgs false
set_option maxRecDepth 100000
/-- those of a list that pass -/
def FL (f : Q → Bool) (pre : List QB) : List Q := (pre.map Subtype.val).filter f
/-- what the search's loop keeps -/
def IsI (A B C D : Int) (w : World) (n0 : Nat) (pre : List QB) (W : World) : Prop :=
  K_Sr A B C D w.heap.size (w.heap.size + 1) (w.heap.size + 2) (w.heap.size + 3) w W ∧ ∃ v1 v2, TL n0 W v1 v2 (FL (fun q => sqB C D q A) pre) (FL (fun q => sqB C D q B) pre)
/-- the loop variable's box -/
def IsX (n0 : Nat) (x : QB) (W : World) (Bx : Nat) : Prop := n0 + 2 ≤ Bx ∧ QBx W Bx x.1 ∧ ∃ v1 v2, Boxed W n0 79 v1 ∧ Boxed W (n0 + 1) 79 v2 ∧ (∀ g, v1.ownBlock = some g → g ≠ Bx) ∧ (∀ g, v2.ownBlock = some g → g ≠ Bx)
theorem IsI.ck {A B C D : Int} {w W W' : World} {n0 : Nat} {pre : List QB} (h : IsI A B C D w n0 pre W) (hc : CK W W') (hb : Below w.heap.size w W') : IsI A B C D w n0 pre W' := by
  obtain ⟨hk, v1, v2, ht⟩ := h
  exact ⟨KL.ck hk hc hb, v1, v2, ht.ck hc⟩
theorem IsI.own (A B C D : Int) (w : World) (n0 B0 : Nat) (hn : w.heap.size ≤ B0) : OwnFrom B0 (IsI A B C D w n0) := fun s X Y row hs hg hr =>
  hs.ck (CK.grown hg fun r e => (hr r e).2) (hs.1.bel.grown hg hs.1.bel.size fun k e => Nat.le_trans hn (hr k e).1)
theorem IsX.ck {n0 : Nat} {x : QB} {W W' : World} {Bx : Nat} (h : IsX n0 x W Bx) (hc : CK W W') : IsX n0 x W' Bx := by
  obtain ⟨h1, h2, v1, v2, h3, h4, h5⟩ := h
  exact ⟨h1, h2.ck hc, v1, v2, box_ck h3 hc, box_ck h4 hc, h5⟩
theorem IsI.alloc {A B C D : Int} {w W : World} {n0 : Nat} {pre : List QB} (h : IsI A B C D w n0 pre W) (o : Obj) : IsI A B C D w n0 pre (W.alloc o) :=
  h.ck (CK.alloc W o) (h.1.bel.alloc h.1.bel.size o)
theorem IsX.new {A B C D : Int} {w W : World} {n0 : Nat} {pre : List QB} (h : IsI A B C D w n0 pre W) (x : QB) : IsX n0 x (W.alloc (.cells #[.int .i64 x.1.w, .int .i64 x.1.x, .int .i64 x.1.y, .int .i64 x.1.z, .int .i64 x.1.d] 35)) W.heap.size := by
  obtain ⟨hk, v1, v2, ht⟩ := h
  have h2 := ht.b2.lt
  refine ⟨by omega, World.alloc_heap_new W _, v1, v2, box_ck ht.b1 (CK.alloc W _), box_ck ht.b2 (CK.alloc W _), fun g e => ?_, fun g e => ?_⟩
  · have := (ht.r1.lt g e).2; omega
  · have := (ht.r2.lt g e).2; omega
theorem Sr_belowN {A B C D : Int} {w W W' : World} {n0 : Nat} (h : K_Sr A B C D w.heap.size (w.heap.size + 1) (w.heap.size + 2) (w.heap.size + 3) w W) (hn : w.heap.size + 4 ≤ n0) (hb : Below n0 W W') : K_Sr A B C D w.heap.size (w.heap.size + 1) (w.heap.size + 2) (w.heap.size + 3) w W' :=
  KL.belowN h (by intro y hy; simp only [List.mem_cons, List.not_mem_nil, or_false] at hy; rcases hy with rfl | rfl | rfl | rfl | rfl | rfl | rfl | rfl | rfl | rfl | rfl | rfl | rfl | rfl <;> simp only [] <;> omega) (by intro y hy; simp only [List.mem_cons, List.not_mem_nil, or_false] at hy; rcases hy with rfl | rfl | rfl | rfl | rfl | rfl | rfl | rfl | rfl | rfl <;> simp only [] <;> omega) (by omega) hb
theorem flt_yes {f : Q → Bool} {pre : List QB} {x : QB} (h : f x.1 = true) : FL f (pre ++ [x]) = FL f pre ++ [x.1] := by unfold FL; simp [h]
theorem flt_no {f : Q → Bool} {pre : List QB} {x : QB} (h : f x.1 = false) : FL f (pre ++ [x]) = FL f pre := by unfold FL; simp [h]
theorem flt_len (f : Q → Bool) (pre : List QB) : (FL f pre).length ≤ pre.length := Nat.le_trans (List.length_filter_le _ _) (by simp)
/-- how the boxes and the loop variable lie in a round -/
theorem IsX.with {n0 : Nat} {x : QB} {W : World} {Bx : Nat} {v1 v2 : Value} {L1 L2 : List Q} (h : IsX n0 x W Bx) (ht : TL n0 W v1 v2 L1 L2) : n0 + 2 ≤ Bx ∧ QBx W Bx x.1 ∧ (∀ g, v1.ownBlock = some g → g ≠ Bx) ∧ (∀ g, v2.ownBlock = some g → g ≠ Bx) := by
  obtain ⟨h1, h2, u1, u2, h3, h4, h5, h6⟩ := h
  have e1 : u1 = v1 := by
    have := (show W.heap[n0]? = _ from h3).symm.trans (show W.heap[n0]? = _ from ht.b1)
    simpa using this
  have e2 : u2 = v2 := by
    have := (show W.heap[n0 + 1]? = _ from h4).symm.trans (show W.heap[n0 + 1]? = _ from ht.b2)
    simpa using this
  subst e1 e2
  exact ⟨h1, h2, h5, h6⟩
set_option maxHeartbeats 8000000 in
theorem Ism_ok (A B C D : Int) (w : World) (hA : chkA A B = 0) (hC : chkA C D = 0) (hI : isoB A B C D = true) :
    Calls Try.prog 16 #[.agg #[.int .i64 A, .int .i64 B], .agg #[.int .i64 C, .int .i64 D]] w fun e w' => e = .returned (IsV 21 (ff (tnB C D) (Dl (pf C D A) 2) (Dl (pf C D B) 2))) ∧ Below w.heap.size w w' := by
  obtain ⟨i0, hi, hz0, hz1, hz2⟩ := info_parts infoQ
  have OK := Lib.hid (or2_ok hA hC)
  have II := Lib.hid (fun W => isIso_any A B C D W hA hC)
  rw [hI] at II
  have bA := Bn_A hA
  have bC := Bn_A hC
  have R1 : Hid (∀ (x : QB) (W : World), Calls Try.prog 43 #[.agg #[.int .i64 C, .int .i64 D], .agg #[.int .i64 (x.1).w, .int .i64 (x.1).x, .int .i64 (x.1).y, .int .i64 (x.1).z, .int .i64 (x.1).d], .int .i64 A] W fun e w' => e = .returned (.bool (sqB C D x.1 A)) ∧ Below W.heap.size W w') := Lib.hid (fun x W => isRoot_any C D x.1.w x.1.x x.1.y x.1.z x.1.d A W bC.1 bC.2 x.2.1 bA.1)
  have R2 : Hid (∀ (x : QB) (W : World), Calls Try.prog 43 #[.agg #[.int .i64 C, .int .i64 D], .agg #[.int .i64 (x.1).w, .int .i64 (x.1).x, .int .i64 (x.1).y, .int .i64 (x.1).z, .int .i64 (x.1).d], .int .i64 B] W fun e w' => e = .returned (.bool (sqB C D x.1 B)) ∧ Below W.heap.size W w') := Lib.hid (fun x W => isRoot_any C D x.1.w x.1.x x.1.y x.1.z x.1.d B W bC.1 bC.2 x.2.1 bA.2)
  have S1 : Hid (∀ (x y : Q) (W : World), chkQ x.w x.x x.y x.z x.d = 0 → chkQ y.w y.x y.y y.z y.d = 0 → Calls Try.prog 44 #[.agg #[.int .i64 C, .int .i64 D], .agg #[.int .i64 (x).w, .int .i64 (x).x, .int .i64 (x).y, .int .i64 (x).z, .int .i64 (x).d], .agg #[.int .i64 (y).w, .int .i64 (y).x, .int .i64 (y).y, .int .i64 (y).z, .int .i64 (y).d]] W fun e w' => e = .returned (.bool (tnB C D x y)) ∧ Below W.heap.size W w') := Lib.hid (fun x y W hx hy => changeSign_any C D x.w x.x x.y x.z x.d y.w y.x y.y y.z y.d W bC.1 bC.2 hx hy)
  clear hA hC hI bA bC
  refine (callsIn_wide (n := 6)).1 ?_
  refine callsIn_of_wp_marks Try.func16 rfl trivial ?_ rfl
  simp only [Try.ntmps16, List.size_toArray, List.length_cons, List.length_nil, Nat.reduceAdd, Nat.reduceSub, Array.replicate_succ, Array.replicate_zero, List.push_toArray, List.append_toArray, List.nil_append, List.cons_append]
  refine wpIn_wide.2 ?_
  go_wp2_with fail
  have hk : K_Sr A B C D w.heap.size (w.heap.size + 1) (w.heap.size + 2) (w.heap.size + 3) w ((((w.alloc (.cells #[.int .i64 A, .int .i64 B] 23)).alloc (.cells #[.int .i64 C, .int .i64 D] 23)).alloc (.cells #[.int .i64 0, .int .i64 0, .int .i64 0, .int .i64 0, .int .i64 0] 35)).alloc (.cells #[.int .i64 0, .int .i64 0, .int .i64 0, .int .i64 0, .int .i64 0] 35)) := ⟨by simp [go_sem], by simp [go_sem], by simp [go_sem], by (repeat (first | (with_reducible exact Below.refl _ _) | (with_reducible exact HB.out) | (with_reducible refine below_draws ?_ _) | (with_reducible refine Below.alloc ?_ (by go_size) _) | (with_reducible refine Below.setCell ?_ (by go_size) _) | (with_reducible refine Below.alloc ?_ (by simp <;> omega) _) | (with_reducible refine Below.setCell ?_ (by simp <;> omega) _)))⟩
  generalize ((((w.alloc (.cells #[.int .i64 A, .int .i64 B] 23)).alloc (.cells #[.int .i64 C, .int .i64 D] 23)).alloc (.cells #[.int .i64 0, .int .i64 0, .int .i64 0, .int .i64 0, .int .i64 0] 35)).alloc (.cells #[.int .i64 0, .int .i64 0, .int .i64 0, .int .i64 0, .int .i64 0] 35)) = wq at hk ⊢
  go_region_held3 (fun w' => (w'.cell? ⟨w.heap.size, 0, none⟩ = some (.int .i64 A) ∧ w'.cell? ⟨w.heap.size, 1, none⟩ = some (.int .i64 B) ∧ w'.cell? ⟨(w.heap.size + 1), 0, none⟩ = some (.int .i64 C) ∧ w'.cell? ⟨(w.heap.size + 1), 1, none⟩ = some (.int .i64 D) ∧ w'.cell? ⟨(w.heap.size + 2), 0, none⟩ = some (cv w' ((w.heap.size + 2)) 0) ∧ w'.frozen? ⟨(w.heap.size + 2), 0, none⟩ = false ∧ w'.cell? ⟨(w.heap.size + 2), 1, none⟩ = some (cv w' ((w.heap.size + 2)) 1) ∧ w'.frozen? ⟨(w.heap.size + 2), 1, none⟩ = false ∧ w'.cell? ⟨(w.heap.size + 2), 2, none⟩ = some (cv w' ((w.heap.size + 2)) 2) ∧ w'.frozen? ⟨(w.heap.size + 2), 2, none⟩ = false ∧ w'.cell? ⟨(w.heap.size + 2), 3, none⟩ = some (cv w' ((w.heap.size + 2)) 3) ∧ w'.frozen? ⟨(w.heap.size + 2), 3, none⟩ = false ∧ w'.cell? ⟨(w.heap.size + 2), 4, none⟩ = some (cv w' ((w.heap.size + 2)) 4) ∧ w'.frozen? ⟨(w.heap.size + 2), 4, none⟩ = false ∧ w'.cell? ⟨(w.heap.size + 3), 0, none⟩ = some (cv w' ((w.heap.size + 3)) 0) ∧ w'.frozen? ⟨(w.heap.size + 3), 0, none⟩ = false ∧ w'.cell? ⟨(w.heap.size + 3), 1, none⟩ = some (cv w' ((w.heap.size + 3)) 1) ∧ w'.frozen? ⟨(w.heap.size + 3), 1, none⟩ = false ∧ w'.cell? ⟨(w.heap.size + 3), 2, none⟩ = some (cv w' ((w.heap.size + 3)) 2) ∧ w'.frozen? ⟨(w.heap.size + 3), 2, none⟩ = false ∧ w'.cell? ⟨(w.heap.size + 3), 3, none⟩ = some (cv w' ((w.heap.size + 3)) 3) ∧ w'.frozen? ⟨(w.heap.size + 3), 3, none⟩ = false ∧ w'.cell? ⟨(w.heap.size + 3), 4, none⟩ = some (cv w' ((w.heap.size + 3)) 4) ∧ w'.frozen? ⟨(w.heap.size + 3), 4, none⟩ = false) ∧ K_Sr A B C D w.heap.size (w.heap.size + 1) (w.heap.size + 2) (w.heap.size + 3) w w') ((refine K_Sr.ks ?_; repeat (first | (with_reducible assumption) | (with_reducible refine K_Sr.draws _ ?_) | (with_reducible refine K_Sr.drew ?_) | (with_reducible refine K_Sr.alloc _ ?_) | (with_reducible refine K_Sr.set ?_ _ _ _ (by omega)))))
    (first
      | (go_at_call 27; (with_reducible refine (Check_any _ _ _).mono ?_); rintro e w' ⟨rfl, hbel⟩; have hk' := K_Sr.below hbel (And.right (by assumption)); clear hbel)
      | (go_at_call 38; (with_reducible refine (Or_new _ _ _ _ _ ?_).mono ?_); rfl; rintro e w'' ⟨rfl, rfl⟩))
  all_goals
    rw [OK.out]
    rename_i hh
    clear hh hk
    have hK := K_Sr.alloc (.cells #[.int .i64 (chkA A B), .int .i64 (chkA C D)] 27) hk'
    clear hk'
    obtain ⟨c0_, c1_, c2_, c3_, d0_, f0_, d1_, f1_, d2_, f2_, d3_, f3_, d4_, f4_, d5_, f5_, d6_, f6_, d7_, f7_, d8_, f8_, d9_, f9_⟩ := K_Sr.cells hK; obtain ⟨z0_, z1_, z2_, z3_, -⟩ := K_Sr.zs hK; have HK := Lib.hid hK; clear hK
    go_wp2_with fail
    refine (II.out _).mono ?_
    rintro e w3 ⟨rfl, hb⟩
    clear c0_ c1_ c2_ c3_ d0_ f0_ d1_ f1_ d2_ f2_ d3_ f3_ d4_ f4_ d5_ f5_ d6_ f6_ d7_ f7_ d8_ f8_ d9_ f9_ z0_ z1_ z2_ z3_
    have hK := K_Sr.below hb HK.out
    clear hb HK
    obtain ⟨c0_, c1_, c2_, c3_, d0_, f0_, d1_, f1_, d2_, f2_, d3_, f3_, d4_, f4_, d5_, f5_, d6_, f6_, d7_, f7_, d8_, f8_, d9_, f9_⟩ := K_Sr.cells hK; obtain ⟨z0_, z1_, z2_, z3_, -⟩ := K_Sr.zs hK; have HK := Lib.hid hK; clear hK
    go_wp2_with fail
    have hn0 : w.heap.size + 4 ≤ w3.heap.size := by omega
    have hK3 := HK.out
    have h0 : IsI A B C D w w3.heap.size [] ((w3.alloc (.cells #[.slice none 0 0] 79)).alloc (.cells #[.slice none 0 0] 79)) :=
      ⟨K_Sr.alloc _ (K_Sr.alloc _ HK.out), _, _, ⟨(Boxed.new w3 _ _).alloc _, by have := Boxed.new (w3.alloc (.cells #[.slice none 0 0] 79)) 79 (.slice none 0 0); rw [World.size_alloc] at this; exact this, World.ownsRow_nil _ _ _ _, World.ownsRow_nil _ _ _ _, by intro g e; simp [Value.ownBlock] at e⟩⟩
    clear c0_ c1_ c2_ c3_ d0_ f0_ d1_ f1_ d2_ f2_ d3_ f3_ d4_ f4_ d5_ f5_ d6_ f6_ d7_ f7_ d8_ f8_ d9_ f9_ z0_ z1_ z2_ z3_
    clear HK hK3
    obtain ⟨W0, hW0⟩ : ∃ W0, ((w3.alloc (.cells #[.slice none 0 0] 79)).alloc (.cells #[.slice none 0 0] 79)) = W0 := ⟨_, rfl⟩
    have hs0 : W0.heap.size = w3.heap.size + 2 := by rw [← hW0]; simp
    rw [hW0] at h0 ⊢
    generalize w3.heap.size = n0 at *
    refine (wpIn_wide (n := 6)).1 ?_
    refine wpIn_rangeFunc_ownH rfl (by omega) (gf := 42) (lb := #[]) rfl trivial (enters_of Try.func42 (by kernel_rfl) rfl) (cand_stops 5 (by omega) W0) (fun _ _ => trivial) (fun _ _ _ _ _ _ _ _ => trivial) (Below.refl _ _) (fun _ => rfl)
      (IsI A B C D w n0) (fun _ _ _ => False) (IsI.own A B C D w n0 _ (by omega)) (fun _ _ _ _ _ hs _ _ => hs) h0
      (fun x a' W => ∃ Bx, IsX n0 x W Bx ∧ a' = { tmps := #[.agg #[.int .i64 A, .int .i64 B], .agg #[.int .i64 C, .int .i64 D], .pointer (some ⟨w.heap.size, 0, none⟩), .pointer (some ⟨w.heap.size + 1, 0, none⟩), .pointer (some ⟨w.heap.size + 1 + 1, 0, none⟩), .pointer (some ⟨w.heap.size + 1 + 1 + 1, 0, none⟩), .int .i64 0, .int .i64 0, .pointer (some ⟨n0, 0, none⟩), .pointer (some ⟨n0 + 1, 0, none⟩), .pointer (some ⟨Bx, 0, none⟩), undef, undef, undef, undef, .agg #[.int .i64 A, .int .i64 B], .int .i64 (chkA A B), .agg #[.int .i64 C, .int .i64 D], .int .i64 (chkA C D), .slice (some ⟨w'.heap.size, 0, none⟩) 2 2, .int .i64 0, .int .i64 0, .bool false, undef, undef, undef, .agg #[.int .i64 A, .int .i64 B], .agg #[.int .i64 C, .int .i64 D], .bool true, .bool false, undef, undef, .agg #[.int .i64 (x.1).w, .int .i64 (x.1).x, .int .i64 (x.1).y, .int .i64 (x.1).z, .int .i64 (x.1).d], undef, undef, undef, undef, undef, undef, undef, undef, undef, undef, undef, undef, undef, undef, undef, undef, undef, undef, undef, undef, undef, undef, undef, undef, undef, undef, undef, undef, undef, undef, undef, undef, undef, undef, undef, undef, undef, undef, undef, undef], defers := [] }) (fun x a' s X Y row ⟨Bx, hx, ha⟩ hg hr => ⟨Bx, hx.ck (CK.grown hg fun r e => (hr r e).2), ha⟩) ?assign ?body ?done ?stop
    case assign =>
      intro l pre x W K hI hK
      simp only [encQ, List.zip_toArray, List.zip_cons_cons, List.zip_nil_right, List.foldl_toArray', List.foldl_cons, List.foldl_nil, List.setIfInBounds_toArray, List.set_cons_zero, List.set_cons_succ]
      gi_wp2
      exact hK _ _ ((KeepsOthers.alloc _ _).from _) trivial (hI.alloc _) ⟨_, IsX.new hI x, rfl⟩
    case body =>
      rintro l pre x a' W hl ⟨r, hr⟩ hI ⟨Bx, hX, rfl⟩ hlt
      obtain ⟨hKs, v1, v2, hT⟩ := hI
      obtain ⟨hBx, hq, hq1, hq2⟩ := hX.with hT
      obtain ⟨e1, he1⟩ : ∃ z, sqB C D x.1 A = z := ⟨_, rfl⟩
      obtain ⟨e2, he2⟩ : ∃ z, sqB C D x.1 B = z := ⟨_, rfl⟩
      have P1 := Lib.hid (R1.out x)
      have P2 := Lib.hid (R2.out x)
      rw [he1] at P1
      rw [he2] at P2
      have HE1 := Lib.hid he1
      have HE2 := Lib.hid he2
      clear he1 he2
      obtain ⟨c0_, c1_, c2_, c3_, d0_, f0_, d1_, f1_, d2_, f2_, d3_, f3_, d4_, f4_, d5_, f5_, d6_, f6_, d7_, f7_, d8_, f8_, d9_, f9_⟩ := K_Sr.cells hKs
      obtain ⟨g0_, g1_, g2_, g3_, g4_⟩ := hq.cells
      have gb1 := hT.b1.cell
      have gb2 := hT.b2.cell
      have HT := Lib.hid hT
      have HKS := Lib.hid hKs
      clear hT hKs hX
      gi_wp2_with fail
      refine ⟨trivial, ?_⟩
      refine (CallsIn.inRound l (callsIn_wide.2 (P1.out _))).mono ?_
      rintro e w4 ⟨rfl, hb4⟩
      have hc4 := CK.below hb4
      have hKs4 := KL.ck HKS.out hc4 (HKS.out.bel.trans (hb4.mono HKS.out.bel.size))
      have hT4 := HT.out.ck hc4
      have hq4 := hq.ck hc4
      have hko4 := KeepsOthers.below hb4
      have hn4 : n0 + 2 ≤ w4.heap.size := by have := hT4.b2.lt; omega
      have hl1 := flt_len (fun q => sqB C D q A) pre
      have hl2 := flt_len (fun q => sqB C D q B) pre
      clear HKS HT
      clear c0_ c1_ c2_ c3_ d0_ f0_ d1_ f1_ d2_ f2_ d3_ f3_ d4_ f4_ d5_ f5_ d6_ f6_ d7_ f7_ d8_ f8_ d9_ f9_ g0_ g1_ g2_ g3_ g4_ gb1 gb2 hq
      obtain ⟨c0_, c1_, c2_, c3_, d0_, f0_, d1_, f1_, d2_, f2_, d3_, f3_, d4_, f4_, d5_, f5_, d6_, f6_, d7_, f7_, d8_, f8_, d9_, f9_⟩ := K_Sr.cells hKs4
      obtain ⟨g0_, g1_, g2_, g3_, g4_⟩ := hq4.cells
      have gb1 := hT4.b1.cell
      have gb2 := hT4.b2.cell
      have HK4 := Lib.hid hKs4
      have HT4 := Lib.hid hT4
      have HQ4 := Lib.hid hq4
      clear hKs4 hT4 hq4 hc4
      rcases e1 with _ | _
      · gi_wp2_with fail
        refine ⟨trivial, ?_⟩
        refine (CallsIn.inRound l (callsIn_wide.2 (P2.out _))).mono ?_
        rintro e w6 ⟨rfl, hb6⟩
        have hc6 := CK.below hb6
        have hK6 := KL.ck HK4.out hc6 (HK4.out.bel.trans (hb6.mono HK4.out.bel.size))
        have hT6 := HT4.out.ck hc6
        have hq6 := HQ4.out.ck hc6
        have hko6 := hko4.trans (KeepsOthers.below hb6)
        have hn6 : n0 + 2 ≤ w6.heap.size := by have := hT6.b2.lt; omega
        clear c0_ c1_ c2_ c3_ d0_ f0_ d1_ f1_ d2_ f2_ d3_ f3_ d4_ f4_ d5_ f5_ d6_ f6_ d7_ f7_ d8_ f8_ d9_ f9_ g0_ g1_ g2_ g3_ g4_ gb1 gb2 hc6
        obtain ⟨c0_, c1_, c2_, c3_, d0_, f0_, d1_, f1_, d2_, f2_, d3_, f3_, d4_, f4_, d5_, f5_, d6_, f6_, d7_, f7_, d8_, f8_, d9_, f9_⟩ := K_Sr.cells hK6
        obtain ⟨g0_, g1_, g2_, g3_, g4_⟩ := hq6.cells
        have gb2 := hT6.b2.cell
        have HK6 := Lib.hid hK6
        have HT6 := Lib.hid hT6
        have HQ6 := Lib.hid hq6
        clear hK6 hT6 hq6
        rcases e2 with _ | _
        · gi_wp2
          exact ⟨hko6.from _, trivial, HK6.out, _, _, by rw [flt_no (f := fun q => sqB C D q A) HE1.out, flt_no (f := fun q => sqB C D q B) HE2.out]; exact HT6.out⟩
        · gi_wp2_with (gi_at_builtin; refine wpListIn_append_own_at _ rfl _ _ 79 rfl n0 35 i0 (.agg #[.int .i64 0, .int .i64 0, .int .i64 0, .int .i64 0, .int .i64 0]) 5 40 Try.underlying79 hi hz0 hz1 hz2 rfl (by decide) _ _ _ rfl (HT6.out.r2.alloc _) ⟨w6.heap.size, 0, none⟩ 1 1 [.int .i64 x.1.w, .int .i64 x.1.x, .int .i64 x.1.y, .int .i64 x.1.z, .int .i64 x.1.d] rfl rfl (five_new _ _ _ _ _ _ _ _ rfl) (by intro u hu; simp at hu; rcases hu with rfl | rfl | rfl | rfl | rfl <;> rfl) (by unfold maxLen; omega) (by omega) (by simp; omega) ?_; intro v7 w7 hown7 hgrow7 _ hat7; obtain ⟨gg7, cap7, rfl⟩ := ownsRow_succ hown7; obtain ⟨hb7, hT7, hko7, hbl7⟩ := HT6.out.app2 (q := x.1) (by omega) (by rw [List.length_append, flatQ_app]; exact hown7) hgrow7 hat7; have hc7 := hb7.cell; have hf7 := hb7.frozen; have hK7 := Sr_belowN HK6.out hn0 hbl7; have HK7 := Lib.hid hK7; have HT7 := Lib.hid hT7; clear hK7 hT7)
          exact ⟨(hko6.trans hko7).from _, trivial, HK7.out, _, _, by rw [flt_no (f := fun q => sqB C D q A) HE1.out, flt_yes (f := fun q => sqB C D q B) HE2.out]; exact HT7.out⟩
      · gi_wp2_with (gi_at_builtin; refine wpListIn_append_own_at _ rfl _ _ 79 rfl n0 35 i0 (.agg #[.int .i64 0, .int .i64 0, .int .i64 0, .int .i64 0, .int .i64 0]) 5 40 Try.underlying79 hi hz0 hz1 hz2 rfl (by decide) _ _ _ rfl (HT4.out.r1.alloc _) ⟨w4.heap.size, 0, none⟩ 1 1 [.int .i64 x.1.w, .int .i64 x.1.x, .int .i64 x.1.y, .int .i64 x.1.z, .int .i64 x.1.d] rfl rfl (five_new _ _ _ _ _ _ _ _ rfl) (by intro u hu; simp at hu; rcases hu with rfl | rfl | rfl | rfl | rfl <;> rfl) (by unfold maxLen; omega) (by omega) (by simp; omega) ?_; intro v5 w5 hown5 hgrow5 _ hat5; obtain ⟨gg5, cap5, rfl⟩ := ownsRow_succ hown5; obtain ⟨hb5, hT5, hko5, hbl5, hq5⟩ := HT4.out.app1 (q := x.1) HQ4.out hq1 hBx (by omega) (by rw [List.length_append, flatQ_app]; exact hown5) hgrow5 hat5; have hn5 : n0 + 2 ≤ (w5.setCell ⟨n0, 0, none⟩ (.slice (some ⟨gg5, 0, none⟩) ((FL (fun q => sqB C D q A) pre).length + 1) cap5)).heap.size := (by have := hT5.b2.lt; omega); have hkk5 := hko4.trans hko5; have hc5 := hb5.cell; have hf5 := hb5.frozen; have hK5 := Sr_belowN HK4.out hn0 hbl5; clear c0_ c1_ c2_ c3_ d0_ f0_ d1_ f1_ d2_ f2_ d3_ f3_ d4_ f4_ d5_ f5_ d6_ f6_ d7_ f7_ d8_ f8_ d9_ f9_ g0_ g1_ g2_ g3_ g4_ gb1 gb2; obtain ⟨c0_, c1_, c2_, c3_, d0_, f0_, d1_, f1_, d2_, f2_, d3_, f3_, d4_, f4_, d5_, f5_, d6_, f6_, d7_, f7_, d8_, f8_, d9_, f9_⟩ := K_Sr.cells hK5; obtain ⟨g0_, g1_, g2_, g3_, g4_⟩ := hq5.cells; have gb1 := hT5.b1.cell; have gb2 := hT5.b2.cell; have HK5 := Lib.hid hK5; have HT5 := Lib.hid hT5; have HQ5 := Lib.hid hq5; clear hK5 hT5 hq5)
        refine ⟨trivial, ?_⟩
        refine (CallsIn.inRound l (callsIn_wide.2 (P2.out _))).mono ?_
        rintro e w6 ⟨rfl, hb6⟩
        have hc6 := CK.below hb6
        have hK6 := KL.ck HK5.out hc6 (HK5.out.bel.trans (hb6.mono HK5.out.bel.size))
        have hT6 := HT5.out.ck hc6
        have hq6 := HQ5.out.ck hc6
        have hko6 := hkk5.trans (KeepsOthers.below hb6)
        have hn6 : n0 + 2 ≤ w6.heap.size := by have := hT6.b2.lt; omega
        clear c0_ c1_ c2_ c3_ d0_ f0_ d1_ f1_ d2_ f2_ d3_ f3_ d4_ f4_ d5_ f5_ d6_ f6_ d7_ f7_ d8_ f8_ d9_ f9_ g0_ g1_ g2_ g3_ g4_ gb1 gb2 hc6
        obtain ⟨c0_, c1_, c2_, c3_, d0_, f0_, d1_, f1_, d2_, f2_, d3_, f3_, d4_, f4_, d5_, f5_, d6_, f6_, d7_, f7_, d8_, f8_, d9_, f9_⟩ := K_Sr.cells hK6
        obtain ⟨g0_, g1_, g2_, g3_, g4_⟩ := hq6.cells
        have gb2 := hT6.b2.cell
        have HK6 := Lib.hid hK6
        have HT6 := Lib.hid hT6
        have HQ6 := Lib.hid hq6
        clear hK6 hT6 hq6
        rcases e2 with _ | _
        · gi_wp2
          exact ⟨hko6.from _, trivial, HK6.out, _, _, by rw [flt_yes (f := fun q => sqB C D q A) HE1.out, flt_no (f := fun q => sqB C D q B) HE2.out]; exact HT6.out⟩
        · gi_wp2_with (gi_at_builtin; refine wpListIn_append_own_at _ rfl _ _ 79 rfl n0 35 i0 (.agg #[.int .i64 0, .int .i64 0, .int .i64 0, .int .i64 0, .int .i64 0]) 5 40 Try.underlying79 hi hz0 hz1 hz2 rfl (by decide) _ _ _ rfl (HT6.out.r2.alloc _) ⟨w6.heap.size, 0, none⟩ 1 1 [.int .i64 x.1.w, .int .i64 x.1.x, .int .i64 x.1.y, .int .i64 x.1.z, .int .i64 x.1.d] rfl rfl (five_new _ _ _ _ _ _ _ _ rfl) (by intro u hu; simp at hu; rcases hu with rfl | rfl | rfl | rfl | rfl <;> rfl) (by unfold maxLen; omega) (by omega) (by simp; omega) ?_; intro v7 w7 hown7 hgrow7 _ hat7; obtain ⟨gg7, cap7, rfl⟩ := ownsRow_succ hown7; obtain ⟨hb7, hT7, hko7, hbl7⟩ := HT6.out.app2 (q := x.1) (by omega) (by rw [List.length_append, flatQ_app]; exact hown7) hgrow7 hat7; have hc7 := hb7.cell; have hf7 := hb7.frozen; have hK7 := Sr_belowN HK6.out hn0 hbl7; have HK7 := Lib.hid hK7; have HT7 := Lib.hid hT7; clear hK7 hT7)
          exact ⟨(hko6.trans hko7).from _, trivial, HK7.out, _, _, by rw [flt_yes (f := fun q => sqB C D q A) HE1.out, flt_yes (f := fun q => sqB C D q B) HE2.out]; exact HT7.out⟩
    case done =>
      rintro Dd xs W hD hS ⟨hKs, v1, v2, hT⟩ hK
      have f1 : FL (fun q => sqB C D q A) xs = Dl (pf C D A) 2 := by unfold FL; rw [hS]; exact Dl_filter _ _ _
      have f2 : FL (fun q => sqB C D q B) xs = Dl (pf C D B) 2 := by unfold FL; rw [hS]; exact Dl_filter _ _ _
      have m1 : Hid (∀ q ∈ Dl (pf C D A) 2, chkQ q.w q.x q.y q.z q.d = 0) := Lib.hid fun q h => Dl_chk h
      have m2 : Hid (∀ q ∈ Dl (pf C D B) 2, chkQ q.w q.x q.y q.z q.d = 0) := Lib.hid fun q h => Dl_chk h
      have l1 := Dl_len (pf C D A) 2
      have l2 := Dl_len (pf C D B) 2
      obtain ⟨L1, hLe1⟩ : ∃ L, Dl (pf C D A) 2 = L := ⟨_, rfl⟩
      obtain ⟨L2, hLe2⟩ : ∃ L, Dl (pf C D B) 2 = L := ⟨_, rfl⟩
      rw [f1, f2, hLe1, hLe2] at hT
      rw [hLe1] at m1 l1
      rw [hLe2] at m2 l2
      have HE1 := Lib.hid hLe1
      have HE2 := Lib.hid hLe2
      clear hLe1 hLe2
      obtain ⟨A1, c1, rfl, hL1, hm1, hc1⟩ := LQ.of hT.r1
      obtain ⟨A2, c2, rfl, hL2, hm2, hc2⟩ := LQ.of hT.r2
      obtain ⟨c0_, c1_, c2_, c3_, d0_, f0_, d1_, f1_, d2_, f2_, d3_, f3_, d4_, f4_, d5_, f5_, d6_, f6_, d7_, f7_, d8_, f8_, d9_, f9_⟩ := K_Sr.cells hKs
      have gb1 := hT.b1.cell
      have gb2 := hT.b2.cell
      have HT := Lib.hid hT
      have HKS := Lib.hid hKs
      have HL1 := Lib.hid hL1
      have HL2 := Lib.hid hL2
      have HKD := Lib.hid hK
      have HDl : Hid (Dd < W.heap.size) := Lib.hid (Array.getElem?_eq_some_iff.1 hK).1
      clear hT hKs hL1 hL2 hK hS f1 f2
      go_wp2_with fail
      clear c0_ c1_ c2_ c3_ d0_ f0_ d1_ f1_ d2_ f2_ d3_ f3_ d4_ f4_ d5_ f5_ d6_ f6_ d7_ f7_ d8_ f8_ d9_ f9_ gb1 gb2
      go_loopw [53] (fun t53 wr => ∃ i : Nat, (i ≤ L1.length ∧ Below W.heap.size W wr ∧ ∀ k r, k < i → L1[k]? = some r → L2.find? (tnB C D r) = none) ∧ t53 = .int .i64 i) (fun t53 _ => L1.length - (intOf t53).toNat)
      case atStart => exact ⟨0, ⟨Nat.zero_le _, Below.refl _ _, fun k r hk => by omega⟩, rfl⟩
      case round =>
        obtain ⟨i, ⟨hil, hbel, hno⟩, rfl⟩ := hrel
        obtain ⟨wo, rfl⟩ : ∃ wo : World, wo = wr := ⟨_, rfl⟩
        have HN := Lib.hid hno
        have HB := Lib.hid hbel
        clear hno
        have hc := CK.below hbel
        have hK6 := KL.ck HKS.out hc (HKS.out.bel.trans (hbel.mono HKS.out.bel.size))
        have hT6 := HT.out.ck hc
        clear hc hbel
        obtain ⟨c0_, c1_, c2_, c3_, d0_, f0_, d1_, f1_, d2_, f2_, d3_, f3_, d4_, f4_, d5_, f5_, d6_, f6_, d7_, f7_, d8_, f8_, d9_, f9_⟩ := K_Sr.cells hK6
        obtain ⟨z0_, z1_, z2_, z3_, -⟩ := K_Sr.zs hK6
        have gb2 := hT6.b2.cell
        have zb2 := hT6.b2.lt
        have HT6 := Lib.hid hT6
        have HK6 := Lib.hid hK6
        clear hT6 hK6
        by_cases hlt : i < L1.length
        · have hp : L1[i]? = some L1[i] := List.getElem?_eq_getElem hlt
          obtain ⟨b, rfl, ⟨p0_, p1_, p2_, p3_, p4_⟩, hbn, hbz⟩ := LQ.at_ HT6.out.r1 hp
          obtain ⟨p, hpp⟩ : ∃ p, L1[i] = p := ⟨_, rfl⟩
          rw [hpp] at hp p0_ p1_ p2_ p3_ p4_
          have HP := Lib.hid hp
          clear hp hpp
          go_wp2_with fail
          have hb1 : Below W.heap.size W (wo.alloc (.cells #[.int .i64 p.w, .int .i64 p.x, .int .i64 p.y, .int .i64 p.z, .int .i64 p.d] 35)) := HB.out.alloc HB.out.size _
          have hpx : QBx (wo.alloc (.cells #[.int .i64 p.w, .int .i64 p.x, .int .i64 p.y, .int .i64 p.z, .int .i64 p.d] 35)) wo.heap.size p := World.alloc_heap_new wo _
          have hT7 := HT6.out.ck (CK.alloc wo (.cells #[.int .i64 p.w, .int .i64 p.x, .int .i64 p.y, .int .i64 p.z, .int .i64 p.d] 35))
          have hK7 := K_Sr.alloc (.cells #[.int .i64 p.w, .int .i64 p.x, .int .i64 p.y, .int .i64 p.z, .int .i64 p.d] 35) HK6.out
          generalize (wo.alloc (.cells #[.int .i64 p.w, .int .i64 p.x, .int .i64 p.y, .int .i64 p.z, .int .i64 p.d] 35)) = W1 at hb1 hpx hT7 hK7 ⊢
          clear c0_ c1_ c2_ c3_ d0_ f0_ d1_ f1_ d2_ f2_ d3_ f3_ d4_ f4_ d5_ f5_ d6_ f6_ d7_ f7_ d8_ f8_ d9_ f9_ z0_ z1_ z2_ z3_ gb2 zb2 p0_ p1_ p2_ p3_ p4_ HT6 HK6
          have HKD1 : Hid (W1.heap[Dd]? = some (.deferred (some []))) := Lib.hid ((hb1.block Dd HDl.out).trans HKD.out)
          have HDl2 : Hid (Dd < W1.heap.size) := Lib.hid (Array.getElem?_eq_some_iff.1 HKD1.out).1
          have HB1 := Lib.hid hb1
          have HPX := Lib.hid hpx
          have HT7 := Lib.hid hT7
          have HK7 := Lib.hid hK7
          clear hb1 hpx hT7 hK7
          generalize wo.heap.size = Bp at *
          go_loopw [59] (fun t59 wr => ∃ j : Nat, (j ≤ L2.length ∧ Below W1.heap.size W1 wr ∧ ∀ k r, k < j → L2[k]? = some r → tnB C D p r = false) ∧ t59 = .int .i64 j) (fun t59 _ => L2.length - (intOf t59).toNat)
          case atStart => exact ⟨0, ⟨Nat.zero_le _, Below.refl _ _, fun k r hk => by omega⟩, rfl⟩
          case round =>
            obtain ⟨j, ⟨hjl, hbel, hno⟩, rfl⟩ := hrel
            obtain ⟨wo2, rfl⟩ : ∃ wo2 : World, wo2 = wr := ⟨_, rfl⟩
            have HN2 := Lib.hid hno
            have HB2 := Lib.hid hbel
            clear hno
            have hc := CK.below hbel
            have hK8 := KL.ck HK7.out hc (HK7.out.bel.trans (hbel.mono HK7.out.bel.size))
            have hT8 := HT7.out.ck hc
            have hpx8 := HPX.out.ck hc
            clear hc hbel
            obtain ⟨c0_, c1_, c2_, c3_, d0_, f0_, d1_, f1_, d2_, f2_, d3_, f3_, d4_, f4_, d5_, f5_, d6_, f6_, d7_, f7_, d8_, f8_, d9_, f9_⟩ := K_Sr.cells hK8
            obtain ⟨z0_, z1_, z2_, z3_, -⟩ := K_Sr.zs hK8
            obtain ⟨p0_, p1_, p2_, p3_, p4_⟩ := hpx8.cells
            have zp := hpx8.lt
            have HT8 := Lib.hid hT8
            have HK8 := Lib.hid hK8
            have HPX8 := Lib.hid hpx8
            clear hT8 hK8 hpx8
            by_cases hlt2 : j < L2.length
            · have hq : L2[j]? = some L2[j] := List.getElem?_eq_getElem hlt2
              obtain ⟨bq, rfl, ⟨q0_, q1_, q2_, q3_, q4_⟩, hbn2, hbz2⟩ := LQ.at_ HT8.out.r2 hq
              obtain ⟨q, hqq⟩ : ∃ q, L2[j] = q := ⟨_, rfl⟩
              rw [hqq] at hq q0_ q1_ q2_ q3_ q4_
              have HQ := Lib.hid hq
              have SG := Lib.hid (fun V => S1.out p q V (m1.out p (List.mem_of_getElem? HP.out)) (m2.out q (List.mem_of_getElem? hq)))
              clear hq hqq
              obtain ⟨tn, htn⟩ : ∃ z, tnB C D p q = z := ⟨_, rfl⟩
              rw [htn] at SG
              have HTN := Lib.hid htn
              clear htn
              go_wp2_with fail
              refine (SG.out _).mono ?_
              rintro e w8 ⟨rfl, hb8⟩
              have hbq : Below wo2.heap.size wo2 w8 := ((Below.refl wo2.heap.size wo2).alloc (Nat.le_refl _) _).trans (hb8.mono (by simp))
              have hbw : Below W1.heap.size W1 w8 := HB2.out.trans (hbq.mono HB2.out.size)
              have hc := CK.below hbq
              have hK9 := KL.ck HK8.out hc (HK8.out.bel.trans (hbq.mono HK8.out.bel.size))
              have hpx9 := HPX8.out.ck hc
              have hqx9 : QBx w8 wo2.heap.size q := CK.below hb8 _ _ (World.alloc_heap_new wo2 _) rfl
              clear c0_ c1_ c2_ c3_ d0_ f0_ d1_ f1_ d2_ f2_ d3_ f3_ d4_ f4_ d5_ f5_ d6_ f6_ d7_ f7_ d8_ f8_ d9_ f9_ z0_ z1_ z2_ z3_ p0_ p1_ p2_ p3_ p4_ zp q0_ q1_ q2_ q3_ q4_ hc hb8
              have HBQ := Lib.hid hbq
              have HBW := Lib.hid hbw
              clear hbq hbw
              rcases tn with _ | _
              · clear hK9 hpx9 hqx9
                go_wp2
                go_roundw
                case rel => exact ⟨j + 1, ⟨by omega, HBW.out, fun k r hk hr => by
                  by_cases e : k = j
                  · rw [e, HQ.out] at hr; rw [← Option.some.inj hr]; exact HTN.out
                  · exact HN2.out k r (by omega) hr⟩, by go_num⟩
                case measure => simp [intOf]; omega
              · have HFF : Hid (ff (tnB C D) L1 L2 = some (p, q)) := Lib.hid (ff_some HP.out (find_some HQ.out HTN.out HN2.out) HN.out)
                generalize wo2.heap.size = Bq at *
                obtain ⟨c0_, c1_, c2_, c3_, d0_, f0_, d1_, f1_, d2_, f2_, d3_, f3_, d4_, f4_, d5_, f5_, d6_, f6_, d7_, f7_, d8_, f8_, d9_, f9_⟩ := K_Sr.cells hK9
                obtain ⟨z0_, z1_, z2_, z3_, -⟩ := K_Sr.zs hK9
                obtain ⟨p0_, p1_, p2_, p3_, p4_⟩ := hpx9.cells
                obtain ⟨q0_, q1_, q2_, q3_, q4_⟩ := hqx9.cells
                have HK9 := Lib.hid hK9
                clear hK9 hpx9 hqx9
                go_wp2_with fail
                go_region
                go_wp2_with fail
                have hkd : w8.heap[Dd]? = some (.deferred (some [])) := (HBW.out.block Dd (HDl2.out)).trans HKD1.out
                have hk9 := HK9.out
                have e2 : w.heap.size + 2 = w.heap.size + 1 + 1 := rfl
                have e3 : w.heap.size + 3 = w.heap.size + 1 + 1 + 1 := rfl
                rw [e2, e3] at hk9
                clear e2 e3
                obtain ⟨hKn, hko⟩ := Sr_store hk9 (by omega) (by omega) (by omega) (by omega) (by omega) (by omega) (by omega) (p.w) (p.x) (p.y) (p.z) (p.d) (q.w) (q.x) (q.y) (q.z) (q.d)
                have hkf : (((((((((((w8).setCell ⟨w.heap.size + 1 + 1, 0, none⟩ (.int .i64 p.w)).setCell ⟨w.heap.size + 1 + 1, 1, none⟩ (.int .i64 p.x)).setCell ⟨w.heap.size + 1 + 1, 2, none⟩ (.int .i64 p.y)).setCell ⟨w.heap.size + 1 + 1, 3, none⟩ (.int .i64 p.z)).setCell ⟨w.heap.size + 1 + 1, 4, none⟩ (.int .i64 p.d)).setCell ⟨w.heap.size + 1 + 1 + 1, 0, none⟩ (.int .i64 q.w)).setCell ⟨w.heap.size + 1 + 1 + 1, 1, none⟩ (.int .i64 q.x)).setCell ⟨w.heap.size + 1 + 1 + 1, 2, none⟩ (.int .i64 q.y)).setCell ⟨w.heap.size + 1 + 1 + 1, 3, none⟩ (.int .i64 q.z)).setCell ⟨w.heap.size + 1 + 1 + 1, 4, none⟩ (.int .i64 q.d)).drew.heap[Dd]? = some (.deferred (some [])) := heap_drew _ _ _ (hko.same Dd _ hkd rfl)
                have hKf : K_Sf A B C D (p.w) (p.x) (p.y) (p.z) (p.d) (q.w) (q.x) (q.y) (q.z) (q.d) w.heap.size (w.heap.size + 1) (w.heap.size + 1 + 1) (w.heap.size + 1 + 1 + 1) w (((((((((((w8).setCell ⟨w.heap.size + 1 + 1, 0, none⟩ (.int .i64 p.w)).setCell ⟨w.heap.size + 1 + 1, 1, none⟩ (.int .i64 p.x)).setCell ⟨w.heap.size + 1 + 1, 2, none⟩ (.int .i64 p.y)).setCell ⟨w.heap.size + 1 + 1, 3, none⟩ (.int .i64 p.z)).setCell ⟨w.heap.size + 1 + 1, 4, none⟩ (.int .i64 p.d)).setCell ⟨w.heap.size + 1 + 1 + 1, 0, none⟩ (.int .i64 q.w)).setCell ⟨w.heap.size + 1 + 1 + 1, 1, none⟩ (.int .i64 q.x)).setCell ⟨w.heap.size + 1 + 1 + 1, 2, none⟩ (.int .i64 q.y)).setCell ⟨w.heap.size + 1 + 1 + 1, 3, none⟩ (.int .i64 q.z)).setCell ⟨w.heap.size + 1 + 1 + 1, 4, none⟩ (.int .i64 q.d)).drew := K_Sf.drew hKn
                clear hKn hko hkd
                generalize (((((((((((w8).setCell ⟨w.heap.size + 1 + 1, 0, none⟩ (.int .i64 p.w)).setCell ⟨w.heap.size + 1 + 1, 1, none⟩ (.int .i64 p.x)).setCell ⟨w.heap.size + 1 + 1, 2, none⟩ (.int .i64 p.y)).setCell ⟨w.heap.size + 1 + 1, 3, none⟩ (.int .i64 p.z)).setCell ⟨w.heap.size + 1 + 1, 4, none⟩ (.int .i64 p.d)).setCell ⟨w.heap.size + 1 + 1 + 1, 0, none⟩ (.int .i64 q.w)).setCell ⟨w.heap.size + 1 + 1 + 1, 1, none⟩ (.int .i64 q.x)).setCell ⟨w.heap.size + 1 + 1 + 1, 2, none⟩ (.int .i64 q.y)).setCell ⟨w.heap.size + 1 + 1 + 1, 3, none⟩ (.int .i64 q.z)).setCell ⟨w.heap.size + 1 + 1 + 1, 4, none⟩ (.int .i64 q.d)).drew = Wf at hkf hKf ⊢
                refine ⟨by simp, .inl ⟨_, _, rfl, run_takeDeferred hkf, ?_⟩⟩
                have hKg := Sf_taken hKf hkf (by omega)
                clear hKf hkf
                obtain ⟨c0_, c1_, c2_, c3_, c4_, c5_, c6_, c7_, c8_, c9_, c10_, c11_, c12_, c13_⟩ := K_Sf.cells hKg
                refine ⟨.tuple #[.agg #[.int .i64 (p.w), .int .i64 (p.x), .int .i64 (p.y), .int .i64 (p.z), .int .i64 (p.d)], .agg #[.int .i64 (q.w), .int .i64 (q.x), .int .i64 (q.y), .int .i64 (q.z), .int .i64 (q.d)], .int .i64 0], by simp [results, Try.results16, go_sem, c0_, c1_, c2_, c3_, c4_, c5_, c6_, c7_, c8_, c9_, c10_, c11_, c12_, c13_], ?_⟩
                exact ⟨by rw [HE1.out, HE2.out, HFF.out]; rfl, K_Sf.bel hKg⟩
            · have HF : Hid (L2.find? (tnB C D p) = none) := Lib.hid (find_none fun j' r hj' hr => HN2.out j' r (by omega) hr)
              have hbw : Below W.heap.size W wo2 := HB1.out.trans (HB2.out.mono HB1.out.size)
              have HBW := Lib.hid hbw
              clear hbw
              go_wp2_with fail
              go_roundw
              case rel => exact ⟨i + 1, ⟨by omega, HBW.out, fun k r hk hr => by
                by_cases e : k = i
                · rw [e, HP.out] at hr; rw [← Option.some.inj hr]; exact HF.out
                · exact HN.out k r (by omega) hr⟩, by go_num⟩
              case measure => simp [intOf]; omega
        · have HF : Hid (ff (tnB C D) L1 L2 = none) := Lib.hid (ff_none fun k r hk hr => HN.out k r (by omega) hr)
          have HK9 := HK6
          go_wp2_with fail
          have hkd : wo.heap[Dd]? = some (.deferred (some [])) := (HB.out.block Dd HDl.out).trans HKD.out
          have hk9 := HK9.out
          have e2 : w.heap.size + 2 = w.heap.size + 1 + 1 := rfl
          have e3 : w.heap.size + 3 = w.heap.size + 1 + 1 + 1 := rfl
          rw [e2, e3] at hk9
          clear e2 e3
          obtain ⟨hKn, hko⟩ := Sr_store hk9 (by omega) (by omega) (by omega) (by omega) (by omega) (by omega) (by omega) (0) (0) (0) (0) (0) (0) (0) (0) (0) (0)
          have hkf : (((((((((((wo).setCell ⟨w.heap.size + 1 + 1, 0, none⟩ (.int .i64 0)).setCell ⟨w.heap.size + 1 + 1, 1, none⟩ (.int .i64 0)).setCell ⟨w.heap.size + 1 + 1, 2, none⟩ (.int .i64 0)).setCell ⟨w.heap.size + 1 + 1, 3, none⟩ (.int .i64 0)).setCell ⟨w.heap.size + 1 + 1, 4, none⟩ (.int .i64 0)).setCell ⟨w.heap.size + 1 + 1 + 1, 0, none⟩ (.int .i64 0)).setCell ⟨w.heap.size + 1 + 1 + 1, 1, none⟩ (.int .i64 0)).setCell ⟨w.heap.size + 1 + 1 + 1, 2, none⟩ (.int .i64 0)).setCell ⟨w.heap.size + 1 + 1 + 1, 3, none⟩ (.int .i64 0)).setCell ⟨w.heap.size + 1 + 1 + 1, 4, none⟩ (.int .i64 0)).heap[Dd]? = some (.deferred (some [])) := hko.same Dd _ hkd rfl
          have hKf : K_Sf A B C D (0) (0) (0) (0) (0) (0) (0) (0) (0) (0) w.heap.size (w.heap.size + 1) (w.heap.size + 1 + 1) (w.heap.size + 1 + 1 + 1) w (((((((((((wo).setCell ⟨w.heap.size + 1 + 1, 0, none⟩ (.int .i64 0)).setCell ⟨w.heap.size + 1 + 1, 1, none⟩ (.int .i64 0)).setCell ⟨w.heap.size + 1 + 1, 2, none⟩ (.int .i64 0)).setCell ⟨w.heap.size + 1 + 1, 3, none⟩ (.int .i64 0)).setCell ⟨w.heap.size + 1 + 1, 4, none⟩ (.int .i64 0)).setCell ⟨w.heap.size + 1 + 1 + 1, 0, none⟩ (.int .i64 0)).setCell ⟨w.heap.size + 1 + 1 + 1, 1, none⟩ (.int .i64 0)).setCell ⟨w.heap.size + 1 + 1 + 1, 2, none⟩ (.int .i64 0)).setCell ⟨w.heap.size + 1 + 1 + 1, 3, none⟩ (.int .i64 0)).setCell ⟨w.heap.size + 1 + 1 + 1, 4, none⟩ (.int .i64 0)) := hKn
          clear hKn hko hkd
          generalize (((((((((((wo).setCell ⟨w.heap.size + 1 + 1, 0, none⟩ (.int .i64 0)).setCell ⟨w.heap.size + 1 + 1, 1, none⟩ (.int .i64 0)).setCell ⟨w.heap.size + 1 + 1, 2, none⟩ (.int .i64 0)).setCell ⟨w.heap.size + 1 + 1, 3, none⟩ (.int .i64 0)).setCell ⟨w.heap.size + 1 + 1, 4, none⟩ (.int .i64 0)).setCell ⟨w.heap.size + 1 + 1 + 1, 0, none⟩ (.int .i64 0)).setCell ⟨w.heap.size + 1 + 1 + 1, 1, none⟩ (.int .i64 0)).setCell ⟨w.heap.size + 1 + 1 + 1, 2, none⟩ (.int .i64 0)).setCell ⟨w.heap.size + 1 + 1 + 1, 3, none⟩ (.int .i64 0)).setCell ⟨w.heap.size + 1 + 1 + 1, 4, none⟩ (.int .i64 0)) = Wf at hkf hKf ⊢
          refine ⟨by simp, .inl ⟨_, _, rfl, run_takeDeferred hkf, ?_⟩⟩
          have hKg := Sf_taken hKf hkf (by omega)
          clear hKf hkf
          obtain ⟨c0_, c1_, c2_, c3_, c4_, c5_, c6_, c7_, c8_, c9_, c10_, c11_, c12_, c13_⟩ := K_Sf.cells hKg
          refine ⟨.tuple #[.agg #[.int .i64 0, .int .i64 0, .int .i64 0, .int .i64 0, .int .i64 0], .agg #[.int .i64 0, .int .i64 0, .int .i64 0, .int .i64 0, .int .i64 0], .int .i64 21], by simp [results, Try.results16, go_sem, c0_, c1_, c2_, c3_, c4_, c5_, c6_, c7_, c8_, c9_, c10_, c11_, c12_, c13_], ?_⟩
          exact ⟨by rw [HE1.out, HE2.out, HF.out]; rfl, K_Sf.bel hKg⟩
    case stop => exact fun _ _ _ _ _ _ h _ => h.elim
end Go.Proofs.Ytgbnmnkgelklbaa.Iso
