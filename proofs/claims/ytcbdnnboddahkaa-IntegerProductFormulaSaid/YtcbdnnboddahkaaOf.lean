/-
  WALKS: machine integers as integers of words, normal forms, comparisons.
-/
import Derived.Test.YtcbdnnboddahkaaSign
import Derived.Deep.RegionHeld3
namespace Go.Proofs.Ytcbdnnboddahkaa.Ws
open Go.RowKit
set_option linter.unusedVariables false
set_option maxRecDepth 100000
theorem Sl.put {w : World} {k : IntKind} {A : Option Addr} {c : Nat} {xs : List Nat} {p : Addr} {v u : Value} (h : Sl w k A c xs) (hp : w.cell? p = some v) (hv : ∀ z, v ≠ .int k z) : Sl (w.setCell p u) k A c xs := by
  refine ⟨fun h0 => ?_, h.le, h.max, h.nil⟩
  obtain ⟨b, o, rfl, hc⟩ := h.rd h0
  refine ⟨b, o, rfl, fun j hj => ?_⟩
  rw [World.cell?_setCell_other w p ⟨b, o + j, none⟩ u (fun e => ?_)]
  · exact hc j hj
  · subst e
    rw [hc j hj] at hp
    injection hp with hp
    exact hv _ hp.symm
/-- the cells of a result that is an integer of words -/
structure Cl (w : World) (g : Nat) (b : Bool) (A : Option Addr) (n c : Nat) : Prop where
  c0 : w.cell? ⟨g, 0, none⟩ = some (.bool b)
  c1 : w.cell? ⟨g, 1, none⟩ = some (.slice A n c)
  f0 : w.frozen? ⟨g, 0, none⟩ = false
  f1 : w.frozen? ⟨g, 1, none⟩ = false
theorem Cl.below {B : Nat} {w w' : World} {g : Nat} {b : Bool} {A : Option Addr} {n c : Nat} (h : Cl w g b A n c) (hb : Below B w w') (hg : g < B) : Cl w' g b A n c :=
  ⟨(hb.cell (p := ⟨g, 0, none⟩) hg).trans h.c0, (hb.cell (p := ⟨g, 1, none⟩) hg).trans h.c1, (hb.frozen (p := ⟨g, 0, none⟩) hg).trans h.f0, (hb.frozen (p := ⟨g, 1, none⟩) hg).trans h.f1⟩
theorem Cl.stored {w0 w : World} {g : Nat} {b b' : Bool} {A A' : Option Addr} {n c n' c' : Nat} {z : Int} (h : Cl w g b A n c) (hi : IntIs w z (.agg #[.bool b', .slice A' n' c'])) (hb : Below w0.heap.size w0 w) (hg : w0.heap.size ≤ g) :
    IntOut w0 z (.returned (.agg #[.bool b', .slice A' n' c'])) ((w.setCell ⟨g, 0, none⟩ (.bool b')).setCell ⟨g, 1, none⟩ (.slice A' n' c')) := by
  obtain ⟨A1, c1, e, hs⟩ := hi
  refine ⟨_, rfl, ⟨A1, c1, e, ?_⟩, (hb.setCell (p := ⟨g, 0, none⟩) hg _).setCell (p := ⟨g, 1, none⟩) hg _⟩
  refine (hs.put h.c0 (by simp)).put (v := .slice A n c) ?_ (by simp)
  rw [World.cell?_setCell_other _ _ _ _ (by simp)]
  exact h.c1
theorem of_words (n : Int) (h1 : -9223372036854775808 ≤ n) (h2 : n ≤ 9223372036854775807) : ∃ lo hi : Nat, lo < 4294967296 ∧ hi < 4294967296 ∧ iv (decide (n < 0)) [lo, hi] = n ∧
    (0 ≤ n → n % 4294967296 = (lo : Int) ∧ n / 4294967296 = (hi : Int)) ∧
    (n < 0 → IntKind.u64.wrap (-IntKind.u64.wrap n) % 4294967296 = (lo : Int) ∧ IntKind.u64.wrap (-IntKind.u64.wrap n) / 4294967296 % 4294967296 = (hi : Int)) := by
  refine ⟨n.natAbs % 4294967296, n.natAbs / 4294967296, by omega, by omega, ?_, ?_, ?_⟩
  · by_cases h : n < 0
    · simp [h, iv, val]; omega
    · simp [h, iv, val]; omega
  · intro h; omega
  · intro h; simp only [IntKind.wrap_u64]; omega
theorem two_rd (w : World) (T : TypeId) (lo hi : Nat) : Sl (w.alloc (.cells #[.int .u32 (lo : Nat), .int .u32 (hi : Nat)] T)) .u32 (some ⟨w.heap.size, 0, none⟩) 2 [lo, hi] :=
  (Ar.new w .u32 T [lo, hi]).sl (by simp)
theorem cl_new (w : World) (o : Obj) : Cl ((w.alloc (.cells #[.bool false, .slice none 0 0] 24)).alloc o) w.heap.size false none 0 0 :=
  ⟨by simp [go_sem], by simp [go_sem], by simp [go_sem], by simp [go_sem]⟩
theorem cl_new1 (w : World) : Cl (w.alloc (.cells #[.bool false, .slice none 0 0] 24)) w.heap.size false none 0 0 :=
  ⟨by simp [go_sem], by simp [go_sem], by simp [go_sem], by simp [go_sem]⟩
set_option maxHeartbeats 1000000 in
theorem of_any (n : Int) (w : World) (h1 : -9223372036854775808 ≤ n) (h2 : n ≤ 9223372036854775807) :
    Calls Try.prog 23 #[.int .i64 n] w fun e w' => IntOut w n e w' := by
  obtain ⟨lo, hi, hlo, hhi, hiv, hp, hn⟩ := of_words n h1 h2
  have hlt : ∀ x ∈ [lo, hi], x < 4294967296 := by intro x hx; simp at hx; omega
  have HL := Lib.hid hlt
  clear hlt
  by_cases h : n < 0
  · obtain ⟨e1, e2⟩ := hn h
    have hd : decide (n < 0) = true := by simp [h]
    rw [hd] at hiv
    have HI := Lib.hid hiv
    clear hp hn hiv hd
    have hsl := two_rd (w.alloc (.cells #[.bool false, .slice none 0 0] 24)) 113 lo hi
    rw [World.size_alloc] at hsl
    have HS := Lib.hid hsl
    have hB : Below w.heap.size w ((w.alloc (Obj.cells #[Value.bool false, Value.slice none 0 0] 24)).alloc (Obj.cells #[Value.int IntKind.u32 lo, Value.int IntKind.u32 hi] 113)) := by go_grown
    have HB := Lib.hid hB
    have HC := Lib.hid (cl_new w (Obj.cells #[Value.int IntKind.u32 lo, Value.int IntKind.u32 hi] 113))
    clear hsl hB
    go_enter Try.func23, Try.ntmps23
    go_wp2_with fail
    refine (signed_any true (some ⟨w.heap.size + 1, 0, none⟩) 2 [lo, hi] _ HS.out HL.out).mono ?_
    rintro e w1 ⟨v, rfl, hi1, hbel⟩
    have hi2 := hi1
    obtain ⟨A, c, rfl, -⟩ := hi2
    have hc := HC.out.below hbel (by simp; omega)
    have HB1 := Lib.hid (HB.out.trans (hbel.mono (by simp; omega)))
    rw [HI.out] at hi1 ⊢
    have HQ := Lib.hid hi1
    have HK := Lib.hid hc
    obtain ⟨k1, k2, k3, k4⟩ := hc
    clear hbel hi1
    go_wp2
    refine bodyPost_ret (v := .agg #[.bool (decide (n < 0)), .slice A (W n.natAbs).length c]) (by simp [results, Try.results23, go_sem, k1, k2, h]) rfl ?_
    have hf := HK.out.stored HQ.out HB1.out (Nat.le_refl _)
    rw [show decide (n < 0) = true by simp [h]] at hf ⊢
    exact hf
  · obtain ⟨e1, e2⟩ := hp (by omega)
    have hd : decide (n < 0) = false := by simp; omega
    rw [hd] at hiv
    have HI := Lib.hid hiv
    clear hp hn hiv hd
    have hsl := two_rd (w.alloc (.cells #[.bool false, .slice none 0 0] 24)) 113 lo hi
    rw [World.size_alloc] at hsl
    have HS := Lib.hid hsl
    have hB : Below w.heap.size w ((w.alloc (Obj.cells #[Value.bool false, Value.slice none 0 0] 24)).alloc (Obj.cells #[Value.int IntKind.u32 lo, Value.int IntKind.u32 hi] 113)) := by go_grown
    have HB := Lib.hid hB
    have HC := Lib.hid (cl_new w (Obj.cells #[Value.int IntKind.u32 lo, Value.int IntKind.u32 hi] 113))
    clear hsl hB
    go_enter Try.func23, Try.ntmps23
    go_wp2_with fail
    refine (signed_any false (some ⟨w.heap.size + 1, 0, none⟩) 2 [lo, hi] _ HS.out HL.out).mono ?_
    rintro e w1 ⟨v, rfl, hi1, hbel⟩
    have hi2 := hi1
    obtain ⟨A, c, rfl, -⟩ := hi2
    have hc := HC.out.below hbel (by simp; omega)
    have HB1 := Lib.hid (HB.out.trans (hbel.mono (by simp; omega)))
    rw [HI.out] at hi1 ⊢
    have HQ := Lib.hid hi1
    have HK := Lib.hid hc
    obtain ⟨k1, k2, k3, k4⟩ := hc
    clear hbel hi1
    go_wp2
    refine bodyPost_ret (v := .agg #[.bool (decide (n < 0)), .slice A (W n.natAbs).length c]) (by simp [results, Try.results23, go_sem, k1, k2]) rfl ?_
    have hf := HK.out.stored HQ.out HB1.out (Nat.le_refl _)
    rw [show decide (n < 0) = false by simp; omega] at hf ⊢
    exact hf
/-- what stays while a result is made of one boxed argument -/
structure NS (W0 : World) (g : Nat) (neg : Bool) (A : Option Addr) (n c : Nat) (w : World) : Prop where
  x : Cl w g neg A n c
  r : ∃ b A' n' c', Cl w (g + 1) b A' n' c'
  lr : g + 1 < W0.heap.size
  sz : W0.heap.size ≤ w.heap.size
  bel : Below (g + 1) W0 w
section
variable {W0 w w' : World} {g : Nat} {neg : Bool} {A : Option Addr} {n c : Nat}
theorem NS.mk' (h1 : Cl W0 g neg A n c) (h2 : Cl W0 (g + 1) false none 0 0) (h4 : g + 1 < W0.heap.size) : NS W0 g neg A n c W0 :=
  ⟨h1, ⟨_, _, _, _, h2⟩, h4, Nat.le_refl _, Below.refl _ _⟩
theorem NS.below (hb : Below w.heap.size w w') (h : NS W0 g neg A n c w) : NS W0 g neg A n c w' := by
  have := h.lr; have := h.sz
  obtain ⟨b, A', n', c', hr⟩ := h.r
  exact ⟨h.x.below hb (by omega), ⟨b, A', n', c', hr.below hb (by omega)⟩, h.lr, Nat.le_trans h.sz hb.size, h.bel.trans (hb.mono (by omega))⟩
theorem NS.draws (m : Nat) (h : NS W0 g neg A n c w) : NS W0 g neg A n c (w.drewN m) := h.below (below_drawn (Below.refl _ _) m)
theorem Cl.other {p : Addr} (h : Cl w g neg A n c) (hp : p.block ≠ g) (u : Value) : Cl (w.setCell p u) g neg A n c :=
  ⟨by rw [World.cell?_setCell_other _ _ _ _ (fun e => hp (by rw [e]))]; exact h.c0, by rw [World.cell?_setCell_other _ _ _ _ (fun e => hp (by rw [e]))]; exact h.c1, by simpa [go_sem] using h.f0, by simpa [go_sem] using h.f1⟩
theorem Cl.self {b : Bool} {A' : Option Addr} {n' c' : Nat} (h : Cl w g neg A n c) : Cl ((w.setCell ⟨g, 0, none⟩ (.bool b)).setCell ⟨g, 1, none⟩ (.slice A' n' c')) g b A' n' c' :=
  ⟨by simp [go_sem, h.c0], by simp [go_sem, h.c1], by simp [go_sem, h.f0], by simp [go_sem, h.f1]⟩
theorem NS.stored (b : Bool) (A' : Option Addr) (n' c' : Nat) (h : NS W0 g neg A n c w) : NS W0 g neg A n c ((w.setCell ⟨g + 1, 0, none⟩ (.bool b)).setCell ⟨g + 1, 1, none⟩ (.slice A' n' c')) := by
  obtain ⟨b0, A0, n0, c0, hr⟩ := h.r
  exact ⟨(h.x.other (p := ⟨g + 1, 0, none⟩) (by simp) _).other (p := ⟨g + 1, 1, none⟩) (by simp) _, ⟨_, _, _, _, hr.self⟩, h.lr, by simpa using h.sz, (h.bel.setCell (p := ⟨g + 1, 0, none⟩) (Nat.le_refl _) _).setCell (p := ⟨g + 1, 1, none⟩) (Nat.le_refl _) _⟩
theorem NS.ks (h : NS W0 g neg A n c w) : (w.cell? ⟨g, 0, none⟩ = some (.bool neg) ∧ w.cell? ⟨g, 1, none⟩ = some (.slice A n c)) ∧ NS W0 g neg A n c w :=
  ⟨⟨h.x.c0, h.x.c1⟩, h⟩
end
set_option maxHeartbeats 2000000 in
theorem normal_any (neg : Bool) (A : Option Addr) (c : Nat) (xs : List Nat) (w : World) (h : IntIn w neg A c xs) :
    Calls Try.prog 26 #[.agg #[.bool neg, .slice A xs.length c]] w fun e w' => IntOut w (iv neg xs) e w' := by
  have hlen := h.len
  have HI := Lib.hid h
  have hB : Below w.heap.size w ((w.alloc (.cells #[.bool neg, .slice A xs.length c] 24)).alloc (.cells #[.bool false, .slice none 0 0] 24)) := by go_grown
  have hC : Cl ((w.alloc (.cells #[.bool neg, .slice A xs.length c] 24)).alloc (.cells #[.bool false, .slice none 0 0] 24)) w.heap.size neg A xs.length c :=
    ⟨by simp [go_sem], by simp [go_sem], by simp [go_sem], by simp [go_sem]⟩
  have hD : Cl ((w.alloc (.cells #[.bool neg, .slice A xs.length c] 24)).alloc (.cells #[.bool false, .slice none 0 0] 24)) (w.heap.size + 1) false none 0 0 := by
    have := cl_new1 (w.alloc (.cells #[.bool neg, .slice A xs.length c] 24))
    rw [World.size_alloc] at this; exact this
  have hz : ((w.alloc (.cells #[.bool neg, .slice A xs.length c] 24)).alloc (.cells #[.bool false, .slice none 0 0] 24)).heap.size = w.heap.size + 2 := by simp
  have HB := Lib.hid hB
  have HC := Lib.hid hC
  have HD := Lib.hid hD
  have HZ := Lib.hid hz
  clear h hB hC hD hz
  go_enter Try.func26, Try.ntmps26
  go_wp2_with fail
  generalize ((w.alloc (Obj.cells #[Value.bool neg, Value.slice A xs.length c] 24)).alloc (Obj.cells #[Value.bool false, Value.slice none 0 0] 24)) = W0 at *
  have hk0 : NS W0 w.heap.size neg A xs.length c W0 := NS.mk' HC.out HD.out (by have := HZ.out; omega)
  go_region_held3 (fun w' => (w'.cell? ⟨w.heap.size, 0, none⟩ = some (.bool neg) ∧ w'.cell? ⟨w.heap.size, 1, none⟩ = some (.slice A xs.length c)) ∧ NS W0 w.heap.size neg A xs.length c w') (first | exact NS.ks (by assumption) | exact NS.ks (NS.draws 1 (by assumption)) | exact NS.ks (NS.stored _ _ _ _ (by assumption)))
    (first
      | (go_at_call 92; ((with_reducible refine (clone_any A c xs _ ?_ (by omega)).mono ?_)); (exact (HI.out.below (HB.out.trans ((NS.bel (And.right (by assumption))).mono (by omega)))).sl); rintro e w' ⟨A1, c1, rfl, hs1, hbel⟩; have hk' := NS.below hbel (And.right (by assumption)); clear hbel)
      | (go_at_call 90; ((with_reducible refine (signed_any neg _ _ xs _ ?_ HI.out.lt).mono ?_)); assumption; rintro e w' ⟨v, rfl, hi1, hbel⟩; have hk' := NS.below hbel (And.right (by assumption)); have hi2 := Lib.hid hi1; obtain ⟨A2, c2, rfl, -⟩ := hi1; obtain ⟨b0, A0, n0, c0, hcl⟩ := hk'.r; obtain ⟨q1, q2, q3, q4⟩ := hcl; clear hbel))
  all_goals go_wp2
  refine bodyPost_ret (v := .agg #[.bool (decide (iv neg xs < 0)), .slice A2 (W (iv neg xs).natAbs).length c2]) (by simp [results, Try.results26, go_sem, q1, q2]) rfl ?_
  exact Cl.stored ⟨q1, q2, q3, q4⟩ hi2.out (HB.out.trans (hk'.bel.mono (by omega))) (by omega)
end Go.Proofs.Ytcbdnnboddahkaa.Ws
