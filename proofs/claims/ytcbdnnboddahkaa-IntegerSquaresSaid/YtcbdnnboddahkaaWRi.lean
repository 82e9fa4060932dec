/-
  The walk of the law IntegerRing.
-/
import Derived.Test.YtcbdnnboddahkaaV
import Derived.Test.YtcbdnnboddahkaaAwake
namespace Go.Proofs.Ytcbdnnboddahkaa.Ws
open Go.RowKit
set_option linter.unusedVariables false
set_option maxRecDepth 100000
theorem few3_yes {l m n : Nat} (h : fewB [l, m, n] = true) : l ≤ 6 ∧ m ≤ 6 ∧ n ≤ 6 := by
  simpa [fewB] using h
theorem args3 {w : World} {g : Nat} {nx ny nz : Bool} {X Y Z : Option Addr} {l m n c d f : Nat} (T : TypeId) (hg : g = w.heap.size) : Args (w.alloc (.cells #[.bool nx, .slice X l c, .bool ny, .slice Y m d, .bool nz, .slice Z n f] T)) g [l, m, n] := by
  subst hg
  refine ⟨fun i hi => ?_⟩
  match i, hi with
  | 0, _ => exact ⟨X, c, by simp [go_sem]⟩
  | 1, _ => exact ⟨Y, d, by simp [go_sem]⟩
  | 2, _ => exact ⟨Z, f, by simp [go_sem]⟩
theorem Ms.k3 {w : World} {g h i : Nat} {b b' b'' : Bool} {A A' A'' : Option Addr} {n n' n'' c c' c'' : Nat} {L : List (Nat × Bool × Option Addr × Nat × Nat)} (m : Ms w ((i, b'', A'', n'', c'') :: (h, b', A', n', c') :: (g, b, A, n, c) :: L)) :
    (w.cell? ⟨g, 0, none⟩ = some (.bool b) ∧ w.cell? ⟨g, 1, none⟩ = some (.slice A n c) ∧ w.cell? ⟨h, 0, none⟩ = some (.bool b') ∧ w.cell? ⟨h, 1, none⟩ = some (.slice A' n' c') ∧ w.cell? ⟨i, 0, none⟩ = some (.bool b'') ∧ w.cell? ⟨i, 1, none⟩ = some (.slice A'' n'' c'')) ∧ Ms w ((i, b'', A'', n'', c'') :: (h, b', A', n', c') :: (g, b, A, n, c) :: L) :=
  ⟨⟨m.tl.tl.hd.1, m.tl.tl.hd.2, m.tl.hd.1, m.tl.hd.2, m.hd.1, m.hd.2⟩, m⟩
theorem cmpI_add (a b c : Int) : cmpI (a + c) (b + c) = cmpI a b := cmpI_eq _ _ _ _ (by omega) (by omega)
theorem cmpI_anti (a b : Int) : cmpI a b = -cmpI b a := by
  unfold cmpI
  (repeat' split) <;> omega
theorem Vs.draw {w : World} {L : List (Value × Bool × Int × Nat)} (h : Vs w L) : Vs w.drew L := Vs.below (w' := w.drewN 1) (below_drawn (Below.refl _ _) 1) h
theorem Ms.draw {w : World} {L : List (Nat × Bool × Option Addr × Nat × Nat)} (h : Ms w L) : Ms w.drew L := Ms.draws 1 h
theorem cmpI_ge {z a : Int} (h : ¬ z < a) : ∃ v, cmpI z a = v ∧ decide (v < 0) = false := by
  unfold cmpI; rw [if_neg h]; split
  · exact ⟨1, rfl, by decide⟩
  · exact ⟨0, rfl, by decide⟩
theorem Cmp_v2 {w : World} {b b' : Bool} {z t q : Int} {k l : Nat} {u v : Value} (hu : IntE w b z k u) (hv : IntE w b' t l v) (hq : cmpI z t = q) : Calls Try.prog 28 #[u, v] w fun e w' => e = .returned (.int .i64 q) ∧ Below w.heap.size w w' := by
  subst hq; exact Cmp_v hu hv
theorem IntE.put {w : World} {b : Bool} {z : Int} {k : Nat} {v u u' : Value} {p : Addr} (h : IntE w b z k v) (hp : w.cell? p = some u') (hu : ∀ k n, u' ≠ .int k n) : IntE (w.setCell p u) b z k v := by
  obtain ⟨⟨neg, A, c, xs, rfl, h1, h2, h3⟩, h4⟩ := h
  exact ⟨⟨neg, A, c, xs, rfl, ⟨h1.sl.put hp (fun z => hu _ z), h1.lt, h1.len⟩, h2, h3⟩, fun h => (h4 h).put hp hu⟩
theorem Vs.put {w : World} {u u' : Value} {p : Addr} (hp : w.cell? p = some u') (hu : ∀ k n, u' ≠ .int k n) : ∀ {L : List (Value × Bool × Int × Nat)}, Vs w L → Vs (w.setCell p u) L
  | [], _ => trivial
  | (_, _, _, _) :: _, h => ⟨h.1.put hp hu, Vs.put hp hu h.2⟩
theorem Ms.far {w : World} {u : Value} {p : Addr} : ∀ {L : List (Nat × Bool × Option Addr × Nat × Nat)}, Ms w L → (∀ e ∈ L, e.1 ≠ p.block) → Ms (w.setCell p u) L
  | [], _, _ => trivial
  | (g, _, _, _, _) :: _, h, hn => ⟨⟨h.1.1.other (hn _ (List.mem_cons_self)).symm _, by simpa using h.1.2⟩, Ms.far h.2 fun e he => hn e (List.mem_cons_of_mem _ he)⟩
theorem Ms.all_lt {w : World} : ∀ {L : List (Nat × Bool × Option Addr × Nat × Nat)}, Ms w L → ∀ e ∈ L, e.1 < w.heap.size
  | [], _, _, he => by cases he
  | (_, _, _, _, _) :: _, h, e, he => by
    rcases List.mem_cons.1 he with rfl | he
    · exact h.1.2
    · exact Ms.all_lt h.2 e he
theorem Ms.set_ {w : World} {g : Nat} {b : Bool} {A : Option Addr} {n c : Nat} {L : List (Nat × Bool × Option Addr × Nat × Nat)} (h : Ms w ((g, b, A, n, c) :: L)) (hn : ∀ e ∈ L, e.1 < g) (b' : Bool) (A' : Option Addr) (n' c' : Nat) :
    Ms ((w.setCell ⟨g, 0, none⟩ (.bool b')).setCell ⟨g, 1, none⟩ (.slice A' n' c')) ((g, b', A', n', c') :: L) :=
  ⟨⟨h.1.1.self, by simpa using h.1.2⟩, Ms.far (Ms.far h.2 fun e he => Nat.ne_of_lt (hn e he)) fun e he => Nat.ne_of_lt (hn e he)⟩
theorem Vs.set_ {w : World} {g : Nat} {b : Bool} {A : Option Addr} {n c : Nat} {L : List (Value × Bool × Int × Nat)} (k : Cl w g b A n c) (b' : Bool) (A' : Option Addr) (n' c' : Nat) (h : Vs w L) : Vs ((w.setCell ⟨g, 0, none⟩ (.bool b')).setCell ⟨g, 1, none⟩ (.slice A' n' c')) L :=
  Vs.put (u' := .slice A n c) (by rw [World.cell?_setCell_other _ _ _ _ (by simp)]; exact k.c1) (by simp) (Vs.put k.c0 (by simp) h)
theorem gcd_dvd_s (a b : Int) : ((Nat.gcd a.natAbs b.natAbs : Nat) : Int) ∣ a := Int.ofNat_dvd_left.2 (Nat.gcd_dvd_left _ _)
theorem gcd_dvd_t (a b : Int) : ((Nat.gcd a.natAbs b.natAbs : Nat) : Int) ∣ b := Int.ofNat_dvd_left.2 (Nat.gcd_dvd_right _ _)
set_option maxHeartbeats 8000000 in
theorem walk_ring (nx ny nz : Bool) (X Y Z : Option Addr) (c d f : Nat) (xs ys zs : List Nat) (w : World) (hx : Sl w .u32 X c xs) (hy : Sl w .u32 Y d ys) (hz : Sl w .u32 Z f zs) (bx : ∀ x ∈ xs, x < 4294967296) (bz : ∀ x ∈ ys, x < 4294967296) (bq : ∀ x ∈ zs, x < 4294967296) :
    Calls Try.prog 5 #[.agg #[.bool nx, .slice X xs.length c], .agg #[.bool ny, .slice Y ys.length d], .agg #[.bool nz, .slice Z zs.length f]] w fun e w' => e = .returned (.bool true) ∧ Below w.heap.size w w' := by
  have hlx := hx.le
  have hmx := hx.max
  have hly := hy.le
  have hmy := hy.max
  have hlz := hz.le
  have hmz := hz.max
  have HX := Lib.hid hx
  have HY := Lib.hid hy
  have HZ := Lib.hid hz
  have BX := Lib.hid bx
  have BY := Lib.hid bz
  have BZ := Lib.hid bq
  clear hx hy hz bx bz bq
  have hA := args3 (w := (((w.alloc (Obj.cells #[Value.bool nx, Value.slice X xs.length c] 24)).alloc (Obj.cells #[Value.bool ny, Value.slice Y ys.length d] 24)).alloc (Obj.cells #[Value.bool nz, Value.slice Z zs.length f] 24))) (g := w.heap.size + 1 + 1 + 1) (nx := nx) (ny := ny) (nz := nz) (X := X) (Y := Y) (Z := Z) (l := xs.length) (m := ys.length) (n := zs.length) (c := c) (d := d) (f := f) 24 (by simp)
  have hB3 : Below w.heap.size w ((((w.alloc (Obj.cells #[Value.bool nx, Value.slice X xs.length c] 24)).alloc (Obj.cells #[Value.bool ny, Value.slice Y ys.length d] 24)).alloc (Obj.cells #[Value.bool nz, Value.slice Z zs.length f] 24)).alloc (Obj.cells #[Value.bool nx, Value.slice X xs.length c, Value.bool ny, Value.slice Y ys.length d, Value.bool nz, Value.slice Z zs.length f] 24)) := by go_grown
  have hM := (((Ms.nil_ w).new nx X xs.length c).new ny Y ys.length d).new nz Z zs.length f
  simp only [World.size_alloc] at hM
  have hM4 := hM.below ((Below.refl (((w.alloc (Obj.cells #[Value.bool nx, Value.slice X xs.length c] 24)).alloc (Obj.cells #[Value.bool ny, Value.slice Y ys.length d] 24)).alloc (Obj.cells #[Value.bool nz, Value.slice Z zs.length f] 24)).heap.size (((w.alloc (Obj.cells #[Value.bool nx, Value.slice X xs.length c] 24)).alloc (Obj.cells #[Value.bool ny, Value.slice Y ys.length d] 24)).alloc (Obj.cells #[Value.bool nz, Value.slice Z zs.length f] 24))).alloc (Nat.le_refl _) (Obj.cells #[Value.bool nx, Value.slice X xs.length c, Value.bool ny, Value.slice Y ys.length d, Value.bool nz, Value.slice Z zs.length f] 24))
  have HARG := Lib.hid hA
  have HB3 := Lib.hid hB3
  have HM := Lib.hid hM4
  clear hA hB3 hM hM4
  cases hf : fewB [xs.length, ys.length, zs.length] with
  | false =>
    have HF := Lib.hid hf
    clear hf
    go_enter Try.func5, Try.ntmps5
    go_wp2_with fail
    refine (short_any (w.heap.size + 1 + 1 + 1) [xs.length, ys.length, zs.length] _ HARG.out (by simp) (by simp; omega)).mono ?_
    rw [HF.out]
    rintro e w1 ⟨rfl, rfl⟩
    go_wp2_with fail
    refine (awake_any _).mono ?_
    rintro e w2 ⟨rfl, hb⟩
    have HB := Lib.hid (HB3.out.trans (hb.mono HB3.out.size))
    clear hb
    go_wp2
    go_ret
    exact ⟨rfl, HB.out⟩
  | true =>
    obtain ⟨hl6, hm6, hn6⟩ := few3_yes hf
    have HF := Lib.hid hf
    clear hf
    have HIX : Hid (IntIn w nx X c xs) := Lib.hid ⟨HX.out, BX.out, by omega⟩
    have HIY : Hid (IntIn w ny Y d ys) := Lib.hid ⟨HY.out, BY.out, by omega⟩
    have HIZ : Hid (IntIn w nz Z f zs) := Lib.hid ⟨HZ.out, BZ.out, by omega⟩
    go_enter Try.func5, Try.ntmps5
    go_wp2_with fail
    refine (short_any (w.heap.size + 1 + 1 + 1) [xs.length, ys.length, zs.length] _ HARG.out (by simp) (by simp; omega)).mono ?_
    rw [HF.out]
    rintro e w1 ⟨rfl, rfl⟩
    have hms := HM.out
    have hvs := Vs.cons (Vs.cons (Vs.cons (Vs.nil_ _) (IntE.raw (HIX.out.below HB3.out) hl6)) (IntE.raw (HIY.out.below HB3.out) hm6)) (IntE.raw (HIZ.out.below HB3.out) hn6)
    have HBW := Lib.hid HB3.out
    clear HB3 HARG HM HX HY HZ BX BY BZ HIX HIY HIZ
    generalize ((((w.alloc (Obj.cells #[Value.bool nx, Value.slice X xs.length c] 24)).alloc (Obj.cells #[Value.bool ny, Value.slice Y ys.length d] 24)).alloc (Obj.cells #[Value.bool nz, Value.slice Z zs.length f] 24)).alloc (Obj.cells #[Value.bool nx, Value.slice X xs.length c, Value.bool ny, Value.slice Y ys.length d, Value.bool nz, Value.slice Z zs.length f] 24)) = W0 at *
    go_wp2_with fail
    have HE1 : Hid (iv nx xs * (iv ny ys + iv nz zs) = iv nx xs * iv ny ys + iv nx xs * iv nz zs) := Lib.hid (Int.mul_add _ _ _)
    have HE2 : Hid (iv nx xs * iv ny ys * iv nz zs = iv nx xs * (iv ny ys * iv nz zs)) := Lib.hid (Int.mul_assoc _ _ _)
    have HE3 : Hid (iv nx xs * iv ny ys = iv ny ys * iv nx xs) := Lib.hid (Int.mul_comm _ _)
    have HE4 : Hid (iv nx xs - iv ny ys + iv ny ys = iv nx xs) := Lib.hid (Int.sub_add_cancel _ _)
    obtain ⟨p, hp⟩ : ∃ p, cmpI (iv nx xs) (iv ny ys) = p := ⟨_, rfl⟩
    have HC1 : Hid (cmpI (iv nx xs + iv nz zs) (iv ny ys + iv nz zs) = p) := Lib.hid (by rw [cmpI_add]; exact hp)
    have HC2 : Hid (cmpI (iv nx xs) (iv ny ys) = p) := Lib.hid hp
    have HC3 : Hid (cmpI (iv ny ys) (iv nx xs) = -p) := Lib.hid (by rw [cmpI_anti]; exact congrArg (fun q => -q) hp)
    have hpb : -1 ≤ p ∧ p ≤ 1 := by rw [← hp]; rcases cmpI_cases (iv nx xs) (iv ny ys) with h | h | h <;> rw [h] <;> omega
    obtain ⟨hp1, hp2⟩ := hpb
    have hwp : IntKind.i64.wrap p = p := by simp only [IntKind.wrap_i64]; omega
    clear hp
    have hbw := HBW.out
    have hvs' := Vs.draw hvs
    have hms' := Ms.draw hms
    have hbw' := Below.drew hbw
    clear hvs hms hbw
    have hvs := hvs'
    have hms := hms'
    have hbw := hbw'
    clear hvs' hms' hbw'
    go_region_held3 (fun w' => (w'.cell? ⟨w.heap.size, 0, none⟩ = some (.bool nx) ∧ w'.cell? ⟨w.heap.size, 1, none⟩ = some (.slice X xs.length c) ∧ w'.cell? ⟨w.heap.size + 1, 0, none⟩ = some (.bool ny) ∧ w'.cell? ⟨w.heap.size + 1, 1, none⟩ = some (.slice Y ys.length d) ∧ w'.cell? ⟨w.heap.size + 1 + 1, 0, none⟩ = some (.bool nz) ∧ w'.cell? ⟨w.heap.size + 1 + 1, 1, none⟩ = some (.slice Z zs.length f)) ∧ Ms w' [(w.heap.size + 1 + 1, nz, Z, zs.length, f), (w.heap.size + 1, ny, Y, ys.length, d), (w.heap.size, nx, X, xs.length, c)]) (exact Ms.k3 hms)
      (first
      | (go_at_call 30; ((with_reducible refine' (Add_v ?_ ?_ ?_ ?_).mono ?_)); (any_goals (first | exact Vs.hd hvs | exact Vs.hd (Vs.tl hvs) | exact Vs.hd (Vs.tl (Vs.tl hvs)) | exact Vs.hd (Vs.tl (Vs.tl (Vs.tl hvs))) | exact Vs.hd (Vs.tl (Vs.tl (Vs.tl (Vs.tl hvs)))) | exact Vs.hd (Vs.tl (Vs.tl (Vs.tl (Vs.tl (Vs.tl hvs))))) | exact Vs.hd (Vs.tl (Vs.tl (Vs.tl (Vs.tl (Vs.tl (Vs.tl hvs)))))) | exact Vs.hd (Vs.tl (Vs.tl (Vs.tl (Vs.tl (Vs.tl (Vs.tl (Vs.tl hvs))))))))); (any_goals omega); rintro e w' ⟨_, _, _, _, rfl, hv, hbel⟩; have hbw' := Below.trans hbw (Below.mono hbel (Below.size hbw)); clear hbw; have hbw := hbw'; clear hbw'; have hms' := Ms.below hbel hms; clear hms; have hms := hms'; clear hms'; have hvs' := Vs.cons (Vs.below hbel hvs) hv; clear hvs; have hvs := hvs'; clear hvs' hbel hv)
      | (go_at_call 34; ((with_reducible refine' (Mul_v ?_ ?_ ?_ ?_).mono ?_)); (any_goals (first | exact Vs.hd hvs | exact Vs.hd (Vs.tl hvs) | exact Vs.hd (Vs.tl (Vs.tl hvs)) | exact Vs.hd (Vs.tl (Vs.tl (Vs.tl hvs))) | exact Vs.hd (Vs.tl (Vs.tl (Vs.tl (Vs.tl hvs)))) | exact Vs.hd (Vs.tl (Vs.tl (Vs.tl (Vs.tl (Vs.tl hvs))))) | exact Vs.hd (Vs.tl (Vs.tl (Vs.tl (Vs.tl (Vs.tl (Vs.tl hvs)))))) | exact Vs.hd (Vs.tl (Vs.tl (Vs.tl (Vs.tl (Vs.tl (Vs.tl (Vs.tl hvs))))))))); (any_goals omega); rintro e w' ⟨_, _, _, _, rfl, hv, hbel⟩; have hbw' := Below.trans hbw (Below.mono hbel (Below.size hbw)); clear hbw; have hbw := hbw'; clear hbw'; have hms' := Ms.below hbel hms; clear hms; have hms := hms'; clear hms'; have hvs' := Vs.cons (Vs.below hbel hvs) hv; clear hvs; have hvs := hvs'; clear hvs' hbel hv)
      | (go_at_call 32; ((with_reducible refine' (Sub_v ?_ ?_ ?_ ?_).mono ?_)); (any_goals (first | exact Vs.hd hvs | exact Vs.hd (Vs.tl hvs) | exact Vs.hd (Vs.tl (Vs.tl hvs)) | exact Vs.hd (Vs.tl (Vs.tl (Vs.tl hvs))) | exact Vs.hd (Vs.tl (Vs.tl (Vs.tl (Vs.tl hvs)))) | exact Vs.hd (Vs.tl (Vs.tl (Vs.tl (Vs.tl (Vs.tl hvs))))) | exact Vs.hd (Vs.tl (Vs.tl (Vs.tl (Vs.tl (Vs.tl (Vs.tl hvs)))))) | exact Vs.hd (Vs.tl (Vs.tl (Vs.tl (Vs.tl (Vs.tl (Vs.tl (Vs.tl hvs))))))))); (any_goals omega); rintro e w' ⟨_, _, _, _, rfl, hv, hbel⟩; have hbw' := Below.trans hbw (Below.mono hbel (Below.size hbw)); clear hbw; have hbw := hbw'; clear hbw'; have hms' := Ms.below hbel hms; clear hms; have hms := hms'; clear hms'; have hvs' := Vs.cons (Vs.below hbel hvs) hv; clear hvs; have hvs := hvs'; clear hvs' hbel hv)
      | (go_at_call 26; ((with_reducible refine' (Normal_v ?_ ?_).mono ?_)); (any_goals (first | exact Vs.hd hvs | exact Vs.hd (Vs.tl hvs) | exact Vs.hd (Vs.tl (Vs.tl hvs)) | exact Vs.hd (Vs.tl (Vs.tl (Vs.tl hvs))) | exact Vs.hd (Vs.tl (Vs.tl (Vs.tl (Vs.tl hvs)))) | exact Vs.hd (Vs.tl (Vs.tl (Vs.tl (Vs.tl (Vs.tl hvs))))) | exact Vs.hd (Vs.tl (Vs.tl (Vs.tl (Vs.tl (Vs.tl (Vs.tl hvs)))))) | exact Vs.hd (Vs.tl (Vs.tl (Vs.tl (Vs.tl (Vs.tl (Vs.tl (Vs.tl hvs))))))))); (any_goals omega); rintro e w' ⟨_, _, _, _, rfl, hv, hbel⟩; have hbw' := Below.trans hbw (Below.mono hbel (Below.size hbw)); clear hbw; have hbw := hbw'; clear hbw'; have hms' := Ms.below hbel hms; clear hms; have hms := hms'; clear hms'; have hvs' := Vs.cons (Vs.below hbel hvs) hv; clear hvs; have hvs := hvs'; clear hvs' hbel hv)
      | (go_at_call 24; ((with_reducible refine' (Same_v ?_ ?_ HE1.out ?_).mono ?_)); (any_goals (first | exact Vs.hd hvs | exact Vs.hd (Vs.tl hvs) | exact Vs.hd (Vs.tl (Vs.tl hvs)) | exact Vs.hd (Vs.tl (Vs.tl (Vs.tl hvs))) | exact Vs.hd (Vs.tl (Vs.tl (Vs.tl (Vs.tl hvs)))) | exact Vs.hd (Vs.tl (Vs.tl (Vs.tl (Vs.tl (Vs.tl hvs))))) | exact Vs.hd (Vs.tl (Vs.tl (Vs.tl (Vs.tl (Vs.tl (Vs.tl hvs)))))) | exact Vs.hd (Vs.tl (Vs.tl (Vs.tl (Vs.tl (Vs.tl (Vs.tl (Vs.tl hvs))))))))); (any_goals omega); rintro e w' ⟨rfl, hbel⟩; have hbw' := Below.trans hbw (Below.mono hbel (Below.size hbw)); clear hbw; have hbw := hbw'; clear hbw'; have hms' := Ms.below hbel hms; clear hms; have hms := hms'; clear hms'; have hvs' := Vs.below hbel (Vs.tl (Vs.tl (Vs.tl (Vs.tl (Vs.tl hvs))))); clear hvs; have hvs := hvs'; clear hvs' hbel)
      | (go_at_call 24; ((with_reducible refine' (Same_v ?_ ?_ HE2.out ?_).mono ?_)); (any_goals (first | exact Vs.hd hvs | exact Vs.hd (Vs.tl hvs) | exact Vs.hd (Vs.tl (Vs.tl hvs)) | exact Vs.hd (Vs.tl (Vs.tl (Vs.tl hvs))) | exact Vs.hd (Vs.tl (Vs.tl (Vs.tl (Vs.tl hvs)))) | exact Vs.hd (Vs.tl (Vs.tl (Vs.tl (Vs.tl (Vs.tl hvs))))) | exact Vs.hd (Vs.tl (Vs.tl (Vs.tl (Vs.tl (Vs.tl (Vs.tl hvs)))))) | exact Vs.hd (Vs.tl (Vs.tl (Vs.tl (Vs.tl (Vs.tl (Vs.tl (Vs.tl hvs))))))))); (any_goals omega); rintro e w' ⟨rfl, hbel⟩; have hbw' := Below.trans hbw (Below.mono hbel (Below.size hbw)); clear hbw; have hbw := hbw'; clear hbw'; have hms' := Ms.below hbel hms; clear hms; have hms := hms'; clear hms'; have hvs' := Vs.below hbel (Vs.tl (Vs.tl (Vs.tl (Vs.tl hvs)))); clear hvs; have hvs := hvs'; clear hvs' hbel)
      | (go_at_call 24; ((with_reducible refine' (Same_v ?_ ?_ HE3.out ?_).mono ?_)); (any_goals (first | exact Vs.hd hvs | exact Vs.hd (Vs.tl hvs) | exact Vs.hd (Vs.tl (Vs.tl hvs)) | exact Vs.hd (Vs.tl (Vs.tl (Vs.tl hvs))) | exact Vs.hd (Vs.tl (Vs.tl (Vs.tl (Vs.tl hvs)))) | exact Vs.hd (Vs.tl (Vs.tl (Vs.tl (Vs.tl (Vs.tl hvs))))) | exact Vs.hd (Vs.tl (Vs.tl (Vs.tl (Vs.tl (Vs.tl (Vs.tl hvs)))))) | exact Vs.hd (Vs.tl (Vs.tl (Vs.tl (Vs.tl (Vs.tl (Vs.tl (Vs.tl hvs))))))))); (any_goals omega); rintro e w' ⟨rfl, hbel⟩; have hbw' := Below.trans hbw (Below.mono hbel (Below.size hbw)); clear hbw; have hbw := hbw'; clear hbw'; have hms' := Ms.below hbel hms; clear hms; have hms := hms'; clear hms'; have hvs' := Vs.below hbel (Vs.tl (Vs.tl hvs)); clear hvs; have hvs := hvs'; clear hvs' hbel)
      | (go_at_call 24; ((with_reducible refine' (Same_v ?_ ?_ HE4.out ?_).mono ?_)); (any_goals (first | exact Vs.hd hvs | exact Vs.hd (Vs.tl hvs) | exact Vs.hd (Vs.tl (Vs.tl hvs)) | exact Vs.hd (Vs.tl (Vs.tl (Vs.tl hvs))) | exact Vs.hd (Vs.tl (Vs.tl (Vs.tl (Vs.tl hvs)))) | exact Vs.hd (Vs.tl (Vs.tl (Vs.tl (Vs.tl (Vs.tl hvs))))) | exact Vs.hd (Vs.tl (Vs.tl (Vs.tl (Vs.tl (Vs.tl (Vs.tl hvs)))))) | exact Vs.hd (Vs.tl (Vs.tl (Vs.tl (Vs.tl (Vs.tl (Vs.tl (Vs.tl hvs))))))))); (any_goals omega); rintro e w' ⟨rfl, hbel⟩; have hbw' := Below.trans hbw (Below.mono hbel (Below.size hbw)); clear hbw; have hbw := hbw'; clear hbw'; have hms' := Ms.below hbel hms; clear hms; have hms := hms'; clear hms'; have hvs' := Vs.below hbel (Vs.tl (Vs.tl (Vs.tl hvs))); clear hvs; have hvs := hvs'; clear hvs' hbel)
)
    try clear hHeld
    go_wp2_with fail
    have hvs' := Vs.draw hvs
    have hms' := Ms.draw hms
    have hbw' := Below.drew hbw
    clear hvs hms hbw
    have hvs := hvs'
    have hms := hms'
    have hbw := hbw'
    clear hvs' hms' hbw'
    go_region_held3 (fun w' => (w'.cell? ⟨w.heap.size, 0, none⟩ = some (.bool nx) ∧ w'.cell? ⟨w.heap.size, 1, none⟩ = some (.slice X xs.length c) ∧ w'.cell? ⟨w.heap.size + 1, 0, none⟩ = some (.bool ny) ∧ w'.cell? ⟨w.heap.size + 1, 1, none⟩ = some (.slice Y ys.length d) ∧ w'.cell? ⟨w.heap.size + 1 + 1, 0, none⟩ = some (.bool nz) ∧ w'.cell? ⟨w.heap.size + 1 + 1, 1, none⟩ = some (.slice Z zs.length f)) ∧ Ms w' [(w.heap.size + 1 + 1, nz, Z, zs.length, f), (w.heap.size + 1, ny, Y, ys.length, d), (w.heap.size, nx, X, xs.length, c)]) (exact Ms.k3 hms)
      (first
      | (go_at_call 30; ((with_reducible refine' (Add_v ?_ ?_ ?_ ?_).mono ?_)); (any_goals (first | exact Vs.hd hvs | exact Vs.hd (Vs.tl hvs) | exact Vs.hd (Vs.tl (Vs.tl hvs)) | exact Vs.hd (Vs.tl (Vs.tl (Vs.tl hvs))) | exact Vs.hd (Vs.tl (Vs.tl (Vs.tl (Vs.tl hvs)))) | exact Vs.hd (Vs.tl (Vs.tl (Vs.tl (Vs.tl (Vs.tl hvs))))))); (any_goals omega); rintro e w' ⟨_, _, _, _, rfl, hv, hbel⟩; have hbw' := Below.trans hbw (Below.mono hbel (Below.size hbw)); clear hbw; have hbw := hbw'; clear hbw'; have hms' := Ms.below hbel hms; clear hms; have hms := hms'; clear hms'; have hvs' := Vs.cons (Vs.below hbel hvs) hv; clear hvs; have hvs := hvs'; clear hvs' hbel hv)
      | (go_at_call 28; ((with_reducible refine' (Cmp_v2 ?_ ?_ HC1.out).mono ?_)); (any_goals (first | exact Vs.hd hvs | exact Vs.hd (Vs.tl hvs) | exact Vs.hd (Vs.tl (Vs.tl hvs)) | exact Vs.hd (Vs.tl (Vs.tl (Vs.tl hvs))) | exact Vs.hd (Vs.tl (Vs.tl (Vs.tl (Vs.tl hvs)))) | exact Vs.hd (Vs.tl (Vs.tl (Vs.tl (Vs.tl (Vs.tl hvs))))))); rintro e w' ⟨rfl, hbel⟩; have hbw' := Below.trans hbw (Below.mono hbel (Below.size hbw)); clear hbw; have hbw := hbw'; clear hbw'; have hms' := Ms.below hbel hms; clear hms; have hms := hms'; clear hms'; have hvs' := Vs.below hbel (Vs.tl (Vs.tl hvs)); clear hvs; have hvs := hvs'; clear hvs' hbel)
      | (go_at_call 28; ((with_reducible refine' (Cmp_v2 ?_ ?_ HC2.out).mono ?_)); (any_goals (first | exact Vs.hd hvs | exact Vs.hd (Vs.tl hvs) | exact Vs.hd (Vs.tl (Vs.tl hvs)) | exact Vs.hd (Vs.tl (Vs.tl (Vs.tl hvs))) | exact Vs.hd (Vs.tl (Vs.tl (Vs.tl (Vs.tl hvs)))) | exact Vs.hd (Vs.tl (Vs.tl (Vs.tl (Vs.tl (Vs.tl hvs))))))); rintro e w' ⟨rfl, hbel⟩; have hbw' := Below.trans hbw (Below.mono hbel (Below.size hbw)); clear hbw; have hbw := hbw'; clear hbw'; have hms' := Ms.below hbel hms; clear hms; have hms := hms'; clear hms'; have hvs' := Vs.below hbel hvs; clear hvs; have hvs := hvs'; clear hvs' hbel)
      | (go_at_call 28; ((with_reducible refine' (Cmp_v2 ?_ ?_ HC3.out).mono ?_)); (any_goals (first | exact Vs.hd hvs | exact Vs.hd (Vs.tl hvs) | exact Vs.hd (Vs.tl (Vs.tl hvs)) | exact Vs.hd (Vs.tl (Vs.tl (Vs.tl hvs))) | exact Vs.hd (Vs.tl (Vs.tl (Vs.tl (Vs.tl hvs)))) | exact Vs.hd (Vs.tl (Vs.tl (Vs.tl (Vs.tl (Vs.tl hvs))))))); rintro e w' ⟨rfl, hbel⟩; have hbw' := Below.trans hbw (Below.mono hbel (Below.size hbw)); clear hbw; have hbw := hbw'; clear hbw'; have hms' := Ms.below hbel hms; clear hms; have hms := hms'; clear hms'; have hvs' := Vs.below hbel hvs; clear hvs; have hvs := hvs'; clear hvs' hbel)
)
    try clear hHeld
    by_cases h0 : iv ny ys = 0
    · have HCZ : Hid (cmpI (iv ny ys) 0 = 0) := Lib.hid (by rw [h0]; rfl)
      have HDE : Hid (dmE (iv ny ys) = 10) := Lib.hid (by unfold dmE; rw [if_pos h0])
      clear h0
      go_wp2_with fail
      refine' (Of_v 0 (by omega) (by omega)).mono ?_
      rintro e wn ⟨n1, A1, l1, c1, rfl, hv, hbel⟩
      have hbw' := Below.trans hbw (Below.mono hbel (Below.size hbw))
      have hms' := Ms.below hbel hms
      clear hms hbw
      have hms := hms'
      have hbw := hbw'
      clear hms' hbw'
      have hvs' := Vs.cons (Vs.below hbel hvs) hv
      clear hvs hbel hv
      have hvs := hvs'
      clear hvs'
      have hms' := Ms.new hms n1 A1 l1 c1
      have hvs' := Vs.below ((Below.refl _ _).alloc (Nat.le_refl _) (Obj.cells #[Value.bool n1, Value.slice A1 l1 c1] 24)) hvs
      have hbw' := Below.alloc hbw (Below.size hbw) (Obj.cells #[Value.bool n1, Value.slice A1 l1 c1] 24)
      clear hms hvs hbw
      have hms := hms'
      have hvs := hvs'
      have hbw := hbw'
      clear hms' hvs' hbw'
      obtain ⟨k0a, k0b⟩ := Ms.hd (Ms.tl (Ms.tl (Ms.tl hms)))
      obtain ⟨k1a, k1b⟩ := Ms.hd (Ms.tl (Ms.tl hms))
      go_wp2_with fail
      generalize hW : (wn.alloc (Obj.cells #[Value.bool n1, Value.slice A1 l1 c1] 24)) = wa at *
      generalize hzb : wn.heap.size = zb at *
      clear hW hzb
      refine' (DivMod_v (z := iv nx xs) (t := iv ny ys) (k := 6) (l := 6) ?_ ?_ ?_ ?_).mono ?_
      (any_goals (first | exact Vs.hd hvs | exact Vs.hd (Vs.tl hvs) | exact Vs.hd (Vs.tl (Vs.tl hvs)) | exact Vs.hd (Vs.tl (Vs.tl (Vs.tl hvs))) | exact Vs.hd (Vs.tl (Vs.tl (Vs.tl (Vs.tl hvs)))) | exact Vs.hd (Vs.tl (Vs.tl (Vs.tl (Vs.tl (Vs.tl hvs))))) | exact Vs.hd (Vs.tl (Vs.tl (Vs.tl (Vs.tl (Vs.tl (Vs.tl hvs)))))) | exact Vs.hd (Vs.tl (Vs.tl (Vs.tl (Vs.tl (Vs.tl (Vs.tl (Vs.tl hvs))))))) | exact Vs.hd (Vs.tl (Vs.tl (Vs.tl (Vs.tl (Vs.tl (Vs.tl (Vs.tl (Vs.tl hvs)))))))) | exact Vs.hd (Vs.tl (Vs.tl (Vs.tl (Vs.tl (Vs.tl (Vs.tl (Vs.tl (Vs.tl (Vs.tl hvs))))))))) | exact Vs.hd (Vs.tl (Vs.tl (Vs.tl (Vs.tl (Vs.tl (Vs.tl (Vs.tl (Vs.tl (Vs.tl (Vs.tl hvs)))))))))) | exact Vs.hd (Vs.tl (Vs.tl (Vs.tl (Vs.tl (Vs.tl (Vs.tl (Vs.tl (Vs.tl (Vs.tl (Vs.tl (Vs.tl hvs)))))))))))))
      (any_goals omega)
      rintro e wn ⟨n2, A2, l2, c2, n3, A3, l3, c3, rfl, hq, hr, hbel⟩
      clear k0a k0b k1a k1b
      have hbw' := Below.trans hbw (Below.mono hbel (Below.size hbw))
      have hms' := Ms.below hbel hms
      clear hms hbw
      have hms := hms'
      have hbw := hbw'
      clear hms' hbw'
      have hvs' := Vs.cons (Vs.cons (Vs.below hbel hvs) hq) hr
      clear hvs hbel hq hr
      have hvs := hvs'
      clear hvs'
      have hms' := Ms.new hms n2 A2 l2 c2
      have hvs' := Vs.below ((Below.refl _ _).alloc (Nat.le_refl _) (Obj.cells #[Value.bool n2, Value.slice A2 l2 c2] 24)) hvs
      have hbw' := Below.alloc hbw (Below.size hbw) (Obj.cells #[Value.bool n2, Value.slice A2 l2 c2] 24)
      clear hms hvs hbw
      have hms := hms'
      have hvs := hvs'
      have hbw := hbw'
      clear hms' hvs' hbw'
      have hms' := Ms.new hms n3 A3 l3 c3
      have hvs' := Vs.below ((Below.refl _ _).alloc (Nat.le_refl _) (Obj.cells #[Value.bool n3, Value.slice A3 l3 c3] 24)) hvs
      have hbw' := Below.alloc hbw (Below.size hbw) (Obj.cells #[Value.bool n3, Value.slice A3 l3 c3] 24)
      clear hms hvs hbw
      have hms := hms'
      have hvs := hvs'
      have hbw := hbw'
      clear hms' hvs' hbw'
      simp only [World.size_alloc] at hms
      rw [HDE.out]
      obtain ⟨k0a, k0b⟩ := Ms.hd (Ms.tl (Ms.tl (Ms.tl (Ms.tl hms))))
      obtain ⟨k1a, k1b⟩ := Ms.hd (Ms.tl (Ms.tl hms))
      go_wp2_with fail
      refine' (Cmp_v2 ?_ ?_ HCZ.out).mono ?_
      (any_goals (first | exact Vs.hd hvs | exact Vs.hd (Vs.tl hvs) | exact Vs.hd (Vs.tl (Vs.tl hvs)) | exact Vs.hd (Vs.tl (Vs.tl (Vs.tl hvs))) | exact Vs.hd (Vs.tl (Vs.tl (Vs.tl (Vs.tl hvs)))) | exact Vs.hd (Vs.tl (Vs.tl (Vs.tl (Vs.tl (Vs.tl hvs))))) | exact Vs.hd (Vs.tl (Vs.tl (Vs.tl (Vs.tl (Vs.tl (Vs.tl hvs)))))) | exact Vs.hd (Vs.tl (Vs.tl (Vs.tl (Vs.tl (Vs.tl (Vs.tl (Vs.tl hvs))))))) | exact Vs.hd (Vs.tl (Vs.tl (Vs.tl (Vs.tl (Vs.tl (Vs.tl (Vs.tl (Vs.tl hvs)))))))) | exact Vs.hd (Vs.tl (Vs.tl (Vs.tl (Vs.tl (Vs.tl (Vs.tl (Vs.tl (Vs.tl (Vs.tl hvs))))))))) | exact Vs.hd (Vs.tl (Vs.tl (Vs.tl (Vs.tl (Vs.tl (Vs.tl (Vs.tl (Vs.tl (Vs.tl (Vs.tl hvs)))))))))) | exact Vs.hd (Vs.tl (Vs.tl (Vs.tl (Vs.tl (Vs.tl (Vs.tl (Vs.tl (Vs.tl (Vs.tl (Vs.tl (Vs.tl hvs)))))))))))))
      rintro e wn2 ⟨rfl, hbel⟩
      clear k0a k0b k1a k1b
      have hbw' := Below.trans hbw (Below.mono hbel (Below.size hbw))
      have hms' := Ms.below hbel hms
      clear hms hbw
      have hms := hms'
      have hbw := hbw'
      clear hms' hbw'
      have hvs' := Vs.below hbel hvs
      clear hvs hbel
      go_wp2_with fail
      refine (awake_any _).mono ?_
      rintro e w9 ⟨rfl, hb9⟩
      have HBL := Lib.hid (Below.trans hbw (Below.mono hb9 (Below.size hbw)))
      clear hb9
      go_wp2
      go_ret
      exact ⟨rfl, HBL.out⟩
    · by_cases hsg : iv ny ys < 0
      · have HCZ : Hid (cmpI (iv ny ys) 0 = -1) := Lib.hid (by unfold cmpI; rw [if_pos hsg])
        have HDE : Hid (dmE (iv ny ys) = 0) := Lib.hid (by unfold dmE; rw [if_neg h0])
        have hdr : dmR (iv nx xs) (iv ny ys) = iv nx xs % iv ny ys := by unfold dmR; rw [if_neg h0]
        have hg0 : ((Nat.gcd (iv nx xs).natAbs (iv ny ys).natAbs : Nat) : Int) ≠ 0 := by have := Nat.gcd_pos_of_pos_right (iv nx xs).natAbs (show 0 < (iv ny ys).natAbs by omega); omega
        have HDG : Hid (dmE ((Nat.gcd (iv nx xs).natAbs (iv ny ys).natAbs : Nat) : Int) = 0) := Lib.hid (by unfold dmE; rw [if_neg hg0])
        have HE5 : Hid (iv nx xs / iv ny ys * iv ny ys + dmR (iv nx xs) (iv ny ys) = iv nx xs) := Lib.hid (by rw [hdr, Int.mul_comm]; exact Int.mul_ediv_add_emod _ _)
        have hn0 := Int.emod_nonneg (iv nx xs) h0
        have hnl := Int.emod_lt (iv nx xs) h0
        obtain ⟨p1, hp3, hp4⟩ := cmpI_ge (z := dmR (iv nx xs) (iv ny ys)) (a := 0) (by rw [hdr]; omega)
        have HR0 := Lib.hid hp3
        have hp5 : decide (0 ≤ p1) = true := by rw [decide_eq_true_iff]; rw [decide_eq_false_iff_not] at hp4; omega
        have HRS : Hid (cmpI (dmR (iv nx xs) (iv ny ys)) (0 - iv ny ys) = -1) := Lib.hid (by unfold cmpI; rw [if_pos (by rw [hdr]; omega)])
        have HS0 : Hid (cmpI (dmR (iv nx xs) ((Nat.gcd (iv nx xs).natAbs (iv ny ys).natAbs : Nat) : Int)) 0 = 0) := Lib.hid (by have : dmR (iv nx xs) ((Nat.gcd (iv nx xs).natAbs (iv ny ys).natAbs : Nat) : Int) = 0 := by { unfold dmR; rw [if_neg hg0]; exact Int.emod_eq_zero_of_dvd (gcd_dvd_s _ _) }; rw [this]; rfl)
        have HT0 : Hid (cmpI (dmR (iv ny ys) ((Nat.gcd (iv nx xs).natAbs (iv ny ys).natAbs : Nat) : Int)) 0 = 0) := Lib.hid (by have : dmR (iv ny ys) ((Nat.gcd (iv nx xs).natAbs (iv ny ys).natAbs : Nat) : Int) = 0 := by { unfold dmR; rw [if_neg hg0]; exact Int.emod_eq_zero_of_dvd (gcd_dvd_t _ _) }; rw [this]; rfl)
        clear hdr hg0 hn0 hnl hp3 hp4 hsg h0
        go_wp2_with fail
        refine' (Of_v 0 (by omega) (by omega)).mono ?_
        rintro e wn ⟨n1, A1, l1, c1, rfl, hv, hbel⟩
        have hbw' := Below.trans hbw (Below.mono hbel (Below.size hbw))
        have hms' := Ms.below hbel hms
        clear hms hbw
        have hms := hms'
        have hbw := hbw'
        clear hms' hbw'
        have hvs' := Vs.cons (Vs.below hbel hvs) hv
        clear hvs hbel hv
        have hvs := hvs'
        clear hvs'
        have hms' := Ms.new hms n1 A1 l1 c1
        have hvs' := Vs.below ((Below.refl _ _).alloc (Nat.le_refl _) (Obj.cells #[Value.bool n1, Value.slice A1 l1 c1] 24)) hvs
        have hbw' := Below.alloc hbw (Below.size hbw) (Obj.cells #[Value.bool n1, Value.slice A1 l1 c1] 24)
        clear hms hvs hbw
        have hms := hms'
        have hvs := hvs'
        have hbw := hbw'
        clear hms' hvs' hbw'
        obtain ⟨k0a, k0b⟩ := Ms.hd (Ms.tl (Ms.tl (Ms.tl hms)))
        obtain ⟨k1a, k1b⟩ := Ms.hd (Ms.tl (Ms.tl hms))
        go_wp2_with fail
        generalize hW : (wn.alloc (Obj.cells #[Value.bool n1, Value.slice A1 l1 c1] 24)) = wa at *
        generalize hzb : wn.heap.size = zb at *
        clear hW hzb
        refine' (DivMod_v (z := iv nx xs) (t := iv ny ys) (k := 6) (l := 6) ?_ ?_ ?_ ?_).mono ?_
        (any_goals (first | exact Vs.hd hvs | exact Vs.hd (Vs.tl hvs) | exact Vs.hd (Vs.tl (Vs.tl hvs)) | exact Vs.hd (Vs.tl (Vs.tl (Vs.tl hvs))) | exact Vs.hd (Vs.tl (Vs.tl (Vs.tl (Vs.tl hvs)))) | exact Vs.hd (Vs.tl (Vs.tl (Vs.tl (Vs.tl (Vs.tl hvs))))) | exact Vs.hd (Vs.tl (Vs.tl (Vs.tl (Vs.tl (Vs.tl (Vs.tl hvs)))))) | exact Vs.hd (Vs.tl (Vs.tl (Vs.tl (Vs.tl (Vs.tl (Vs.tl (Vs.tl hvs))))))) | exact Vs.hd (Vs.tl (Vs.tl (Vs.tl (Vs.tl (Vs.tl (Vs.tl (Vs.tl (Vs.tl hvs)))))))) | exact Vs.hd (Vs.tl (Vs.tl (Vs.tl (Vs.tl (Vs.tl (Vs.tl (Vs.tl (Vs.tl (Vs.tl hvs))))))))) | exact Vs.hd (Vs.tl (Vs.tl (Vs.tl (Vs.tl (Vs.tl (Vs.tl (Vs.tl (Vs.tl (Vs.tl (Vs.tl hvs)))))))))) | exact Vs.hd (Vs.tl (Vs.tl (Vs.tl (Vs.tl (Vs.tl (Vs.tl (Vs.tl (Vs.tl (Vs.tl (Vs.tl (Vs.tl hvs))))))))))) | exact Vs.hd (Vs.tl (Vs.tl (Vs.tl (Vs.tl (Vs.tl (Vs.tl (Vs.tl (Vs.tl (Vs.tl (Vs.tl (Vs.tl (Vs.tl hvs)))))))))))) | exact Vs.hd (Vs.tl (Vs.tl (Vs.tl (Vs.tl (Vs.tl (Vs.tl (Vs.tl (Vs.tl (Vs.tl (Vs.tl (Vs.tl (Vs.tl (Vs.tl hvs))))))))))))) | exact Vs.hd (Vs.tl (Vs.tl (Vs.tl (Vs.tl (Vs.tl (Vs.tl (Vs.tl (Vs.tl (Vs.tl (Vs.tl (Vs.tl (Vs.tl (Vs.tl (Vs.tl hvs)))))))))))))) | exact Vs.hd (Vs.tl (Vs.tl (Vs.tl (Vs.tl (Vs.tl (Vs.tl (Vs.tl (Vs.tl (Vs.tl (Vs.tl (Vs.tl (Vs.tl (Vs.tl (Vs.tl (Vs.tl hvs)))))))))))))))))
        (any_goals omega)
        rintro e wn ⟨n2, A2, l2, c2, n3, A3, l3, c3, rfl, hq, hr, hbel⟩
        clear k0a k0b k1a k1b
        have hbw' := Below.trans hbw (Below.mono hbel (Below.size hbw))
        have hms' := Ms.below hbel hms
        clear hms hbw
        have hms := hms'
        have hbw := hbw'
        clear hms' hbw'
        have hvs' := Vs.cons (Vs.cons (Vs.below hbel hvs) hq) hr
        clear hvs hbel hq hr
        have hvs := hvs'
        clear hvs'
        have hms' := Ms.new hms n2 A2 l2 c2
        have hvs' := Vs.below ((Below.refl _ _).alloc (Nat.le_refl _) (Obj.cells #[Value.bool n2, Value.slice A2 l2 c2] 24)) hvs
        have hbw' := Below.alloc hbw (Below.size hbw) (Obj.cells #[Value.bool n2, Value.slice A2 l2 c2] 24)
        clear hms hvs hbw
        have hms := hms'
        have hvs := hvs'
        have hbw := hbw'
        clear hms' hvs' hbw'
        have hms' := Ms.new hms n3 A3 l3 c3
        have hvs' := Vs.below ((Below.refl _ _).alloc (Nat.le_refl _) (Obj.cells #[Value.bool n3, Value.slice A3 l3 c3] 24)) hvs
        have hbw' := Below.alloc hbw (Below.size hbw) (Obj.cells #[Value.bool n3, Value.slice A3 l3 c3] 24)
        clear hms hvs hbw
        have hms := hms'
        have hvs := hvs'
        have hbw := hbw'
        clear hms' hvs' hbw'
        simp only [World.size_alloc] at hms
        rw [HDE.out]
        obtain ⟨k0a, k0b⟩ := Ms.hd (Ms.tl (Ms.tl (Ms.tl (Ms.tl hms))))
        obtain ⟨k1a, k1b⟩ := Ms.hd (Ms.tl (Ms.tl hms))
        go_wp2_with fail
        generalize hW : ((wn.alloc (Obj.cells #[Value.bool n2, Value.slice A2 l2 c2] 24)).alloc (Obj.cells #[Value.bool n3, Value.slice A3 l3 c3] 24)) = wb at *
        generalize hzq : wn.heap.size = zc at *
        clear hW hzq
        refine' (Cmp_v2 ?_ ?_ HCZ.out).mono ?_
        (any_goals (first | exact Vs.hd hvs | exact Vs.hd (Vs.tl hvs) | exact Vs.hd (Vs.tl (Vs.tl hvs)) | exact Vs.hd (Vs.tl (Vs.tl (Vs.tl hvs))) | exact Vs.hd (Vs.tl (Vs.tl (Vs.tl (Vs.tl hvs)))) | exact Vs.hd (Vs.tl (Vs.tl (Vs.tl (Vs.tl (Vs.tl hvs))))) | exact Vs.hd (Vs.tl (Vs.tl (Vs.tl (Vs.tl (Vs.tl (Vs.tl hvs)))))) | exact Vs.hd (Vs.tl (Vs.tl (Vs.tl (Vs.tl (Vs.tl (Vs.tl (Vs.tl hvs))))))) | exact Vs.hd (Vs.tl (Vs.tl (Vs.tl (Vs.tl (Vs.tl (Vs.tl (Vs.tl (Vs.tl hvs)))))))) | exact Vs.hd (Vs.tl (Vs.tl (Vs.tl (Vs.tl (Vs.tl (Vs.tl (Vs.tl (Vs.tl (Vs.tl hvs))))))))) | exact Vs.hd (Vs.tl (Vs.tl (Vs.tl (Vs.tl (Vs.tl (Vs.tl (Vs.tl (Vs.tl (Vs.tl (Vs.tl hvs)))))))))) | exact Vs.hd (Vs.tl (Vs.tl (Vs.tl (Vs.tl (Vs.tl (Vs.tl (Vs.tl (Vs.tl (Vs.tl (Vs.tl (Vs.tl hvs))))))))))) | exact Vs.hd (Vs.tl (Vs.tl (Vs.tl (Vs.tl (Vs.tl (Vs.tl (Vs.tl (Vs.tl (Vs.tl (Vs.tl (Vs.tl (Vs.tl hvs)))))))))))) | exact Vs.hd (Vs.tl (Vs.tl (Vs.tl (Vs.tl (Vs.tl (Vs.tl (Vs.tl (Vs.tl (Vs.tl (Vs.tl (Vs.tl (Vs.tl (Vs.tl hvs))))))))))))) | exact Vs.hd (Vs.tl (Vs.tl (Vs.tl (Vs.tl (Vs.tl (Vs.tl (Vs.tl (Vs.tl (Vs.tl (Vs.tl (Vs.tl (Vs.tl (Vs.tl (Vs.tl hvs)))))))))))))) | exact Vs.hd (Vs.tl (Vs.tl (Vs.tl (Vs.tl (Vs.tl (Vs.tl (Vs.tl (Vs.tl (Vs.tl (Vs.tl (Vs.tl (Vs.tl (Vs.tl (Vs.tl (Vs.tl hvs)))))))))))))))))
        rintro e wn ⟨rfl, hbel⟩
        clear k0a k0b k1a k1b
        have hbw' := Below.trans hbw (Below.mono hbel (Below.size hbw))
        have hms' := Ms.below hbel hms
        clear hms hbw
        have hms := hms'
        have hbw := hbw'
        clear hms' hbw'
        have hvs' := Vs.below hbel hvs
        clear hvs hbel
        have hvs := hvs'
        clear hvs'
        have HLT := Lib.hid (Ms.all_lt hms)
        have hgs := Below.size hbw
        obtain ⟨j0a, j0b⟩ := Ms.hd (Ms.tl (Ms.tl (Ms.tl (Ms.tl hms))))
        have hms' := Ms.new hms ny Y ys.length d
        have hvs' := Vs.below ((Below.refl _ _).alloc (Nat.le_refl _) (Obj.cells #[Value.bool ny, Value.slice Y ys.length d] 24)) hvs
        have hbw' := Below.alloc hbw (Below.size hbw) (Obj.cells #[Value.bool ny, Value.slice Y ys.length d] 24)
        clear hms hvs hbw
        have hms := hms'
        have hvs := hvs'
        have hbw := hbw'
        clear hms' hvs' hbw'
        obtain ⟨k0a, k0b⟩ := Ms.hd (Ms.tl (Ms.tl (Ms.tl (Ms.tl (Ms.tl hms)))))
        obtain ⟨k1a, k1b⟩ := Ms.hd (Ms.tl (Ms.tl (Ms.tl hms)))
        go_wp2_with fail
        generalize hW : (wn.alloc (Obj.cells #[Value.bool ny, Value.slice Y ys.length d] 24)) = wc at *
        generalize hzq : wn.heap.size = gs at *
        clear hW hzq
        refine' (Cmp_v2 ?_ ?_ HCZ.out).mono ?_
        (any_goals (first | exact Vs.hd hvs | exact Vs.hd (Vs.tl hvs) | exact Vs.hd (Vs.tl (Vs.tl hvs)) | exact Vs.hd (Vs.tl (Vs.tl (Vs.tl hvs))) | exact Vs.hd (Vs.tl (Vs.tl (Vs.tl (Vs.tl hvs)))) | exact Vs.hd (Vs.tl (Vs.tl (Vs.tl (Vs.tl (Vs.tl hvs))))) | exact Vs.hd (Vs.tl (Vs.tl (Vs.tl (Vs.tl (Vs.tl (Vs.tl hvs)))))) | exact Vs.hd (Vs.tl (Vs.tl (Vs.tl (Vs.tl (Vs.tl (Vs.tl (Vs.tl hvs))))))) | exact Vs.hd (Vs.tl (Vs.tl (Vs.tl (Vs.tl (Vs.tl (Vs.tl (Vs.tl (Vs.tl hvs)))))))) | exact Vs.hd (Vs.tl (Vs.tl (Vs.tl (Vs.tl (Vs.tl (Vs.tl (Vs.tl (Vs.tl (Vs.tl hvs))))))))) | exact Vs.hd (Vs.tl (Vs.tl (Vs.tl (Vs.tl (Vs.tl (Vs.tl (Vs.tl (Vs.tl (Vs.tl (Vs.tl hvs)))))))))) | exact Vs.hd (Vs.tl (Vs.tl (Vs.tl (Vs.tl (Vs.tl (Vs.tl (Vs.tl (Vs.tl (Vs.tl (Vs.tl (Vs.tl hvs))))))))))) | exact Vs.hd (Vs.tl (Vs.tl (Vs.tl (Vs.tl (Vs.tl (Vs.tl (Vs.tl (Vs.tl (Vs.tl (Vs.tl (Vs.tl (Vs.tl hvs)))))))))))) | exact Vs.hd (Vs.tl (Vs.tl (Vs.tl (Vs.tl (Vs.tl (Vs.tl (Vs.tl (Vs.tl (Vs.tl (Vs.tl (Vs.tl (Vs.tl (Vs.tl hvs))))))))))))) | exact Vs.hd (Vs.tl (Vs.tl (Vs.tl (Vs.tl (Vs.tl (Vs.tl (Vs.tl (Vs.tl (Vs.tl (Vs.tl (Vs.tl (Vs.tl (Vs.tl (Vs.tl hvs)))))))))))))) | exact Vs.hd (Vs.tl (Vs.tl (Vs.tl (Vs.tl (Vs.tl (Vs.tl (Vs.tl (Vs.tl (Vs.tl (Vs.tl (Vs.tl (Vs.tl (Vs.tl (Vs.tl (Vs.tl hvs)))))))))))))))))
        rintro e wn ⟨rfl, hbel⟩
        clear j0a j0b
        clear k0a k0b k1a k1b
        have hbw' := Below.trans hbw (Below.mono hbel (Below.size hbw))
        have hms' := Ms.below hbel hms
        clear hms hbw
        have hms := hms'
        have hbw := hbw'
        clear hms' hbw'
        have hvs' := Vs.below hbel hvs
        clear hvs hbel
        have hvs := hvs'
        clear hvs'
        obtain ⟨k0a, k0b⟩ := Ms.hd (Ms.tl (Ms.tl (Ms.tl hms)))
        obtain ⟨k1a, k1b⟩ := Ms.hd (Ms.tl (Ms.tl (Ms.tl (Ms.tl (Ms.tl hms)))))
        go_wp2_with fail
        refine' (Sub_v ?_ ?_ ?_ ?_).mono ?_
        (any_goals (first | exact Vs.hd hvs | exact Vs.hd (Vs.tl hvs) | exact Vs.hd (Vs.tl (Vs.tl hvs)) | exact Vs.hd (Vs.tl (Vs.tl (Vs.tl hvs))) | exact Vs.hd (Vs.tl (Vs.tl (Vs.tl (Vs.tl hvs)))) | exact Vs.hd (Vs.tl (Vs.tl (Vs.tl (Vs.tl (Vs.tl hvs))))) | exact Vs.hd (Vs.tl (Vs.tl (Vs.tl (Vs.tl (Vs.tl (Vs.tl hvs)))))) | exact Vs.hd (Vs.tl (Vs.tl (Vs.tl (Vs.tl (Vs.tl (Vs.tl (Vs.tl hvs))))))) | exact Vs.hd (Vs.tl (Vs.tl (Vs.tl (Vs.tl (Vs.tl (Vs.tl (Vs.tl (Vs.tl hvs)))))))) | exact Vs.hd (Vs.tl (Vs.tl (Vs.tl (Vs.tl (Vs.tl (Vs.tl (Vs.tl (Vs.tl (Vs.tl hvs))))))))) | exact Vs.hd (Vs.tl (Vs.tl (Vs.tl (Vs.tl (Vs.tl (Vs.tl (Vs.tl (Vs.tl (Vs.tl (Vs.tl hvs)))))))))) | exact Vs.hd (Vs.tl (Vs.tl (Vs.tl (Vs.tl (Vs.tl (Vs.tl (Vs.tl (Vs.tl (Vs.tl (Vs.tl (Vs.tl hvs))))))))))) | exact Vs.hd (Vs.tl (Vs.tl (Vs.tl (Vs.tl (Vs.tl (Vs.tl (Vs.tl (Vs.tl (Vs.tl (Vs.tl (Vs.tl (Vs.tl hvs)))))))))))) | exact Vs.hd (Vs.tl (Vs.tl (Vs.tl (Vs.tl (Vs.tl (Vs.tl (Vs.tl (Vs.tl (Vs.tl (Vs.tl (Vs.tl (Vs.tl (Vs.tl hvs))))))))))))) | exact Vs.hd (Vs.tl (Vs.tl (Vs.tl (Vs.tl (Vs.tl (Vs.tl (Vs.tl (Vs.tl (Vs.tl (Vs.tl (Vs.tl (Vs.tl (Vs.tl (Vs.tl hvs)))))))))))))) | exact Vs.hd (Vs.tl (Vs.tl (Vs.tl (Vs.tl (Vs.tl (Vs.tl (Vs.tl (Vs.tl (Vs.tl (Vs.tl (Vs.tl (Vs.tl (Vs.tl (Vs.tl (Vs.tl hvs)))))))))))))))))
        (any_goals omega)
        rintro e wn ⟨n5, A5, l5, c5, rfl, hv, hbel⟩
        clear k0a k0b k1a k1b
        have hbw' := Below.trans hbw (Below.mono hbel (Below.size hbw))
        have hms' := Ms.below hbel hms
        clear hms hbw
        have hms := hms'
        have hbw := hbw'
        clear hms' hbw'
        have hvs' := Vs.cons (Vs.below hbel hvs) hv
        clear hvs hbel hv
        have hvs := hvs'
        clear hvs'
        obtain ⟨s0, s1, s2, s3⟩ := Ms.cl hms
        have hms' := Ms.set_ hms HLT.out n5 A5 l5 c5
        have hvs' := Vs.set_ (Ms.cl hms) n5 A5 l5 c5 hvs
        have hbw' := (Below.setCell hbw (p := ⟨gs, 0, none⟩) hgs (.bool n5)).setCell (p := ⟨gs, 1, none⟩) hgs (.slice A5 l5 c5)
        clear hms hvs hbw
        have hms := hms'
        have hvs := hvs'
        have hbw := hbw'
        clear hms' hvs' hbw'
        obtain ⟨k0a, k0b⟩ := Ms.hd (Ms.tl (Ms.tl (Ms.tl (Ms.tl (Ms.tl (Ms.tl hms))))))
        obtain ⟨k1a, k1b⟩ := Ms.hd (Ms.tl (Ms.tl (Ms.tl (Ms.tl (Ms.tl hms)))))
        go_wp2_with fail
        generalize hW : ((wn.setCell ⟨gs, 0, none⟩ (.bool n5)).setCell ⟨gs, 1, none⟩ (.slice A5 l5 c5)) = wd at *
        clear hW
        refine' (Gcd_v (z := iv nx xs) (t := iv ny ys) ?_ ?_ ?_ ?_).mono ?_
        (any_goals (first | exact Vs.hd hvs | exact Vs.hd (Vs.tl hvs) | exact Vs.hd (Vs.tl (Vs.tl hvs)) | exact Vs.hd (Vs.tl (Vs.tl (Vs.tl hvs))) | exact Vs.hd (Vs.tl (Vs.tl (Vs.tl (Vs.tl hvs)))) | exact Vs.hd (Vs.tl (Vs.tl (Vs.tl (Vs.tl (Vs.tl hvs))))) | exact Vs.hd (Vs.tl (Vs.tl (Vs.tl (Vs.tl (Vs.tl (Vs.tl hvs)))))) | exact Vs.hd (Vs.tl (Vs.tl (Vs.tl (Vs.tl (Vs.tl (Vs.tl (Vs.tl hvs))))))) | exact Vs.hd (Vs.tl (Vs.tl (Vs.tl (Vs.tl (Vs.tl (Vs.tl (Vs.tl (Vs.tl hvs)))))))) | exact Vs.hd (Vs.tl (Vs.tl (Vs.tl (Vs.tl (Vs.tl (Vs.tl (Vs.tl (Vs.tl (Vs.tl hvs))))))))) | exact Vs.hd (Vs.tl (Vs.tl (Vs.tl (Vs.tl (Vs.tl (Vs.tl (Vs.tl (Vs.tl (Vs.tl (Vs.tl hvs)))))))))) | exact Vs.hd (Vs.tl (Vs.tl (Vs.tl (Vs.tl (Vs.tl (Vs.tl (Vs.tl (Vs.tl (Vs.tl (Vs.tl (Vs.tl hvs))))))))))) | exact Vs.hd (Vs.tl (Vs.tl (Vs.tl (Vs.tl (Vs.tl (Vs.tl (Vs.tl (Vs.tl (Vs.tl (Vs.tl (Vs.tl (Vs.tl hvs)))))))))))) | exact Vs.hd (Vs.tl (Vs.tl (Vs.tl (Vs.tl (Vs.tl (Vs.tl (Vs.tl (Vs.tl (Vs.tl (Vs.tl (Vs.tl (Vs.tl (Vs.tl hvs))))))))))))) | exact Vs.hd (Vs.tl (Vs.tl (Vs.tl (Vs.tl (Vs.tl (Vs.tl (Vs.tl (Vs.tl (Vs.tl (Vs.tl (Vs.tl (Vs.tl (Vs.tl (Vs.tl hvs)))))))))))))) | exact Vs.hd (Vs.tl (Vs.tl (Vs.tl (Vs.tl (Vs.tl (Vs.tl (Vs.tl (Vs.tl (Vs.tl (Vs.tl (Vs.tl (Vs.tl (Vs.tl (Vs.tl (Vs.tl hvs)))))))))))))))))
        (any_goals omega)
        rintro e wn ⟨n6, A6, l6, c6, rfl, hv, hbel⟩
        clear k0a k0b k1a k1b
        clear s0 s1 s2 s3
        have hbw' := Below.trans hbw (Below.mono hbel (Below.size hbw))
        have hms' := Ms.below hbel hms
        clear hms hbw
        have hms := hms'
        have hbw := hbw'
        clear hms' hbw'
        have hvs' := Vs.cons (Vs.below hbel hvs) hv
        clear hvs hbel hv
        have hvs := hvs'
        clear hvs'
        have hms' := Ms.new hms n6 A6 l6 c6
        have hvs' := Vs.below ((Below.refl _ _).alloc (Nat.le_refl _) (Obj.cells #[Value.bool n6, Value.slice A6 l6 c6] 24)) hvs
        have hbw' := Below.alloc hbw (Below.size hbw) (Obj.cells #[Value.bool n6, Value.slice A6 l6 c6] 24)
        clear hms hvs hbw
        have hms := hms'
        have hvs := hvs'
        have hbw := hbw'
        clear hms' hvs' hbw'
        obtain ⟨k0a, k0b⟩ := Ms.hd (Ms.tl (Ms.tl (Ms.tl (Ms.tl (Ms.tl (Ms.tl (Ms.tl hms)))))))
        obtain ⟨k1a, k1b⟩ := Ms.hd hms
        go_wp2_with fail
        generalize hW : (wn.alloc (Obj.cells #[Value.bool n6, Value.slice A6 l6 c6] 24)) = wf at *
        generalize hzq : wn.heap.size = zg at *
        clear hW hzq
        refine' (DivMod_v (z := iv nx xs) (t := ((Nat.gcd (iv nx xs).natAbs (iv ny ys).natAbs : Nat) : Int)) ?_ ?_ ?_ ?_).mono ?_
        (any_goals (first | exact Vs.hd hvs | exact Vs.hd (Vs.tl hvs) | exact Vs.hd (Vs.tl (Vs.tl hvs)) | exact Vs.hd (Vs.tl (Vs.tl (Vs.tl hvs))) | exact Vs.hd (Vs.tl (Vs.tl (Vs.tl (Vs.tl hvs)))) | exact Vs.hd (Vs.tl (Vs.tl (Vs.tl (Vs.tl (Vs.tl hvs))))) | exact Vs.hd (Vs.tl (Vs.tl (Vs.tl (Vs.tl (Vs.tl (Vs.tl hvs)))))) | exact Vs.hd (Vs.tl (Vs.tl (Vs.tl (Vs.tl (Vs.tl (Vs.tl (Vs.tl hvs))))))) | exact Vs.hd (Vs.tl (Vs.tl (Vs.tl (Vs.tl (Vs.tl (Vs.tl (Vs.tl (Vs.tl hvs)))))))) | exact Vs.hd (Vs.tl (Vs.tl (Vs.tl (Vs.tl (Vs.tl (Vs.tl (Vs.tl (Vs.tl (Vs.tl hvs))))))))) | exact Vs.hd (Vs.tl (Vs.tl (Vs.tl (Vs.tl (Vs.tl (Vs.tl (Vs.tl (Vs.tl (Vs.tl (Vs.tl hvs)))))))))) | exact Vs.hd (Vs.tl (Vs.tl (Vs.tl (Vs.tl (Vs.tl (Vs.tl (Vs.tl (Vs.tl (Vs.tl (Vs.tl (Vs.tl hvs))))))))))) | exact Vs.hd (Vs.tl (Vs.tl (Vs.tl (Vs.tl (Vs.tl (Vs.tl (Vs.tl (Vs.tl (Vs.tl (Vs.tl (Vs.tl (Vs.tl hvs)))))))))))) | exact Vs.hd (Vs.tl (Vs.tl (Vs.tl (Vs.tl (Vs.tl (Vs.tl (Vs.tl (Vs.tl (Vs.tl (Vs.tl (Vs.tl (Vs.tl (Vs.tl hvs))))))))))))) | exact Vs.hd (Vs.tl (Vs.tl (Vs.tl (Vs.tl (Vs.tl (Vs.tl (Vs.tl (Vs.tl (Vs.tl (Vs.tl (Vs.tl (Vs.tl (Vs.tl (Vs.tl hvs)))))))))))))) | exact Vs.hd (Vs.tl (Vs.tl (Vs.tl (Vs.tl (Vs.tl (Vs.tl (Vs.tl (Vs.tl (Vs.tl (Vs.tl (Vs.tl (Vs.tl (Vs.tl (Vs.tl (Vs.tl hvs)))))))))))))))))
        (any_goals omega)
        rintro e wn ⟨n7, A7, l7, c7, n8, A8, l8, c8, rfl, hq, hr, hbel⟩
        rw [HDG.out]
        clear k0a k0b k1a k1b
        have hbw' := Below.trans hbw (Below.mono hbel (Below.size hbw))
        have hms' := Ms.below hbel hms
        clear hms hbw
        have hms := hms'
        have hbw := hbw'
        clear hms' hbw'
        have hvs' := Vs.cons (Vs.cons (Vs.below hbel hvs) hq) hr
        clear hvs hbel hq hr
        have hvs := hvs'
        clear hvs'
        have hms' := Ms.new hms n7 A7 l7 c7
        have hvs' := Vs.below ((Below.refl _ _).alloc (Nat.le_refl _) (Obj.cells #[Value.bool n7, Value.slice A7 l7 c7] 24)) hvs
        have hbw' := Below.alloc hbw (Below.size hbw) (Obj.cells #[Value.bool n7, Value.slice A7 l7 c7] 24)
        clear hms hvs hbw
        have hms := hms'
        have hvs := hvs'
        have hbw := hbw'
        clear hms' hvs' hbw'
        have hms' := Ms.new hms n8 A8 l8 c8
        have hvs' := Vs.below ((Below.refl _ _).alloc (Nat.le_refl _) (Obj.cells #[Value.bool n8, Value.slice A8 l8 c8] 24)) hvs
        have hbw' := Below.alloc hbw (Below.size hbw) (Obj.cells #[Value.bool n8, Value.slice A8 l8 c8] 24)
        clear hms hvs hbw
        have hms := hms'
        have hvs := hvs'
        have hbw := hbw'
        clear hms' hvs' hbw'
        simp only [World.size_alloc] at hms
        obtain ⟨k0a, k0b⟩ := Ms.hd (Ms.tl (Ms.tl (Ms.tl (Ms.tl (Ms.tl (Ms.tl (Ms.tl (Ms.tl hms))))))))
        obtain ⟨k1a, k1b⟩ := Ms.hd (Ms.tl (Ms.tl hms))
        go_wp2_with fail
        generalize hW : ((wn.alloc (Obj.cells #[Value.bool n7, Value.slice A7 l7 c7] 24)).alloc (Obj.cells #[Value.bool n8, Value.slice A8 l8 c8] 24)) = wh at *
        generalize hzq : wn.heap.size = zs1 at *
        clear hW hzq
        refine' (DivMod_v (z := iv ny ys) (t := ((Nat.gcd (iv nx xs).natAbs (iv ny ys).natAbs : Nat) : Int)) ?_ ?_ ?_ ?_).mono ?_
        (any_goals (first | exact Vs.hd hvs | exact Vs.hd (Vs.tl hvs) | exact Vs.hd (Vs.tl (Vs.tl hvs)) | exact Vs.hd (Vs.tl (Vs.tl (Vs.tl hvs))) | exact Vs.hd (Vs.tl (Vs.tl (Vs.tl (Vs.tl hvs)))) | exact Vs.hd (Vs.tl (Vs.tl (Vs.tl (Vs.tl (Vs.tl hvs))))) | exact Vs.hd (Vs.tl (Vs.tl (Vs.tl (Vs.tl (Vs.tl (Vs.tl hvs)))))) | exact Vs.hd (Vs.tl (Vs.tl (Vs.tl (Vs.tl (Vs.tl (Vs.tl (Vs.tl hvs))))))) | exact Vs.hd (Vs.tl (Vs.tl (Vs.tl (Vs.tl (Vs.tl (Vs.tl (Vs.tl (Vs.tl hvs)))))))) | exact Vs.hd (Vs.tl (Vs.tl (Vs.tl (Vs.tl (Vs.tl (Vs.tl (Vs.tl (Vs.tl (Vs.tl hvs))))))))) | exact Vs.hd (Vs.tl (Vs.tl (Vs.tl (Vs.tl (Vs.tl (Vs.tl (Vs.tl (Vs.tl (Vs.tl (Vs.tl hvs)))))))))) | exact Vs.hd (Vs.tl (Vs.tl (Vs.tl (Vs.tl (Vs.tl (Vs.tl (Vs.tl (Vs.tl (Vs.tl (Vs.tl (Vs.tl hvs))))))))))) | exact Vs.hd (Vs.tl (Vs.tl (Vs.tl (Vs.tl (Vs.tl (Vs.tl (Vs.tl (Vs.tl (Vs.tl (Vs.tl (Vs.tl (Vs.tl hvs)))))))))))) | exact Vs.hd (Vs.tl (Vs.tl (Vs.tl (Vs.tl (Vs.tl (Vs.tl (Vs.tl (Vs.tl (Vs.tl (Vs.tl (Vs.tl (Vs.tl (Vs.tl hvs))))))))))))) | exact Vs.hd (Vs.tl (Vs.tl (Vs.tl (Vs.tl (Vs.tl (Vs.tl (Vs.tl (Vs.tl (Vs.tl (Vs.tl (Vs.tl (Vs.tl (Vs.tl (Vs.tl hvs)))))))))))))) | exact Vs.hd (Vs.tl (Vs.tl (Vs.tl (Vs.tl (Vs.tl (Vs.tl (Vs.tl (Vs.tl (Vs.tl (Vs.tl (Vs.tl (Vs.tl (Vs.tl (Vs.tl (Vs.tl hvs)))))))))))))))))
        (any_goals omega)
        rintro e wn ⟨n9, A9, l9, c9, n10, A10, l10, c10, rfl, hq, hr, hbel⟩
        rw [HDG.out]
        clear k0a k0b k1a k1b
        have hbw' := Below.trans hbw (Below.mono hbel (Below.size hbw))
        have hms' := Ms.below hbel hms
        clear hms hbw
        have hms := hms'
        have hbw := hbw'
        clear hms' hbw'
        have hvs' := Vs.cons (Vs.cons (Vs.below hbel hvs) hq) hr
        clear hvs hbel hq hr
        have hvs := hvs'
        clear hvs'
        have hms' := Ms.new hms n9 A9 l9 c9
        have hvs' := Vs.below ((Below.refl _ _).alloc (Nat.le_refl _) (Obj.cells #[Value.bool n9, Value.slice A9 l9 c9] 24)) hvs
        have hbw' := Below.alloc hbw (Below.size hbw) (Obj.cells #[Value.bool n9, Value.slice A9 l9 c9] 24)
        clear hms hvs hbw
        have hms := hms'
        have hvs := hvs'
        have hbw := hbw'
        clear hms' hvs' hbw'
        have hms' := Ms.new hms n10 A10 l10 c10
        have hvs' := Vs.below ((Below.refl _ _).alloc (Nat.le_refl _) (Obj.cells #[Value.bool n10, Value.slice A10 l10 c10] 24)) hvs
        have hbw' := Below.alloc hbw (Below.size hbw) (Obj.cells #[Value.bool n10, Value.slice A10 l10 c10] 24)
        clear hms hvs hbw
        have hms := hms'
        have hvs := hvs'
        have hbw := hbw'
        clear hms' hvs' hbw'
        simp only [World.size_alloc] at hms
        go_wp2_with fail
        generalize hW : ((wn.alloc (Obj.cells #[Value.bool n9, Value.slice A9 l9 c9] 24)).alloc (Obj.cells #[Value.bool n10, Value.slice A10 l10 c10] 24)) = wj at *
        generalize hzq : wn.heap.size = zt1 at *
        clear hW hzq
        have hvs' := Vs.draw hvs
        have hms' := Ms.draw hms
        have hbw' := Below.drew hbw
        clear hvs hms hbw
        have hvs := hvs'
        have hms := hms'
        have hbw := hbw'
        clear hvs' hms' hbw'
        go_region_held3 (fun w' => (w'.cell? ⟨w.heap.size, 0, none⟩ = some (.bool nx) ∧ w'.cell? ⟨w.heap.size, 1, none⟩ = some (.slice X xs.length c) ∧ w'.cell? ⟨w.heap.size + 1, 0, none⟩ = some (.bool ny) ∧ w'.cell? ⟨w.heap.size + 1, 1, none⟩ = some (.slice Y ys.length d) ∧ w'.cell? ⟨zb, 0, none⟩ = some (.bool n1) ∧ w'.cell? ⟨zb, 1, none⟩ = some (.slice A1 l1 c1) ∧ w'.cell? ⟨zc, 0, none⟩ = some (.bool n2) ∧ w'.cell? ⟨zc, 1, none⟩ = some (.slice A2 l2 c2) ∧ w'.cell? ⟨zc + 1, 0, none⟩ = some (.bool n3) ∧ w'.cell? ⟨zc + 1, 1, none⟩ = some (.slice A3 l3 c3) ∧ w'.cell? ⟨gs, 0, none⟩ = some (.bool n5) ∧ w'.cell? ⟨gs, 1, none⟩ = some (.slice A5 l5 c5) ∧ w'.cell? ⟨zs1 + 1, 0, none⟩ = some (.bool n8) ∧ w'.cell? ⟨zs1 + 1, 1, none⟩ = some (.slice A8 l8 c8) ∧ w'.cell? ⟨zt1 + 1, 0, none⟩ = some (.bool n10) ∧ w'.cell? ⟨zt1 + 1, 1, none⟩ = some (.slice A10 l10 c10)) ∧ Ms w' [(zt1 + 1, n10, A10, l10, c10), (zt1, n9, A9, l9, c9), (zs1 + 1, n8, A8, l8, c8), (zs1, n7, A7, l7, c7), (zg, n6, A6, l6, c6), (gs, n5, A5, l5, c5), (zc + 1, n3, A3, l3, c3), (zc, n2, A2, l2, c2), (zb, n1, A1, l1, c1), (w.heap.size + 1 + 1, nz, Z, zs.length, f), (w.heap.size + 1, ny, Y, ys.length, d), (w.heap.size, nx, X, xs.length, c)]) (exact ⟨⟨(Ms.hd (Ms.tl (Ms.tl (Ms.tl (Ms.tl (Ms.tl (Ms.tl (Ms.tl (Ms.tl (Ms.tl (Ms.tl (Ms.tl hms)))))))))))).1, (Ms.hd (Ms.tl (Ms.tl (Ms.tl (Ms.tl (Ms.tl (Ms.tl (Ms.tl (Ms.tl (Ms.tl (Ms.tl (Ms.tl hms)))))))))))).2, (Ms.hd (Ms.tl (Ms.tl (Ms.tl (Ms.tl (Ms.tl (Ms.tl (Ms.tl (Ms.tl (Ms.tl (Ms.tl hms))))))))))).1, (Ms.hd (Ms.tl (Ms.tl (Ms.tl (Ms.tl (Ms.tl (Ms.tl (Ms.tl (Ms.tl (Ms.tl (Ms.tl hms))))))))))).2, (Ms.hd (Ms.tl (Ms.tl (Ms.tl (Ms.tl (Ms.tl (Ms.tl (Ms.tl (Ms.tl hms))))))))).1, (Ms.hd (Ms.tl (Ms.tl (Ms.tl (Ms.tl (Ms.tl (Ms.tl (Ms.tl (Ms.tl hms))))))))).2, (Ms.hd (Ms.tl (Ms.tl (Ms.tl (Ms.tl (Ms.tl (Ms.tl (Ms.tl hms)))))))).1, (Ms.hd (Ms.tl (Ms.tl (Ms.tl (Ms.tl (Ms.tl (Ms.tl (Ms.tl hms)))))))).2, (Ms.hd (Ms.tl (Ms.tl (Ms.tl (Ms.tl (Ms.tl (Ms.tl hms))))))).1, (Ms.hd (Ms.tl (Ms.tl (Ms.tl (Ms.tl (Ms.tl (Ms.tl hms))))))).2, (Ms.hd (Ms.tl (Ms.tl (Ms.tl (Ms.tl (Ms.tl hms)))))).1, (Ms.hd (Ms.tl (Ms.tl (Ms.tl (Ms.tl (Ms.tl hms)))))).2, (Ms.hd (Ms.tl (Ms.tl hms))).1, (Ms.hd (Ms.tl (Ms.tl hms))).2, (Ms.hd hms).1, (Ms.hd hms).2⟩, hms⟩)
          (first
      | (go_at_call 30; ((with_reducible refine' (Add_v ?_ ?_ ?_ ?_).mono ?_)); (any_goals (first | exact Vs.hd hvs | exact Vs.hd (Vs.tl hvs) | exact Vs.hd (Vs.tl (Vs.tl hvs)) | exact Vs.hd (Vs.tl (Vs.tl (Vs.tl hvs))) | exact Vs.hd (Vs.tl (Vs.tl (Vs.tl (Vs.tl hvs)))) | exact Vs.hd (Vs.tl (Vs.tl (Vs.tl (Vs.tl (Vs.tl hvs))))) | exact Vs.hd (Vs.tl (Vs.tl (Vs.tl (Vs.tl (Vs.tl (Vs.tl hvs)))))) | exact Vs.hd (Vs.tl (Vs.tl (Vs.tl (Vs.tl (Vs.tl (Vs.tl (Vs.tl hvs))))))) | exact Vs.hd (Vs.tl (Vs.tl (Vs.tl (Vs.tl (Vs.tl (Vs.tl (Vs.tl (Vs.tl hvs)))))))) | exact Vs.hd (Vs.tl (Vs.tl (Vs.tl (Vs.tl (Vs.tl (Vs.tl (Vs.tl (Vs.tl (Vs.tl hvs))))))))) | exact Vs.hd (Vs.tl (Vs.tl (Vs.tl (Vs.tl (Vs.tl (Vs.tl (Vs.tl (Vs.tl (Vs.tl (Vs.tl hvs)))))))))) | exact Vs.hd (Vs.tl (Vs.tl (Vs.tl (Vs.tl (Vs.tl (Vs.tl (Vs.tl (Vs.tl (Vs.tl (Vs.tl (Vs.tl hvs))))))))))) | exact Vs.hd (Vs.tl (Vs.tl (Vs.tl (Vs.tl (Vs.tl (Vs.tl (Vs.tl (Vs.tl (Vs.tl (Vs.tl (Vs.tl (Vs.tl hvs)))))))))))) | exact Vs.hd (Vs.tl (Vs.tl (Vs.tl (Vs.tl (Vs.tl (Vs.tl (Vs.tl (Vs.tl (Vs.tl (Vs.tl (Vs.tl (Vs.tl (Vs.tl hvs))))))))))))) | exact Vs.hd (Vs.tl (Vs.tl (Vs.tl (Vs.tl (Vs.tl (Vs.tl (Vs.tl (Vs.tl (Vs.tl (Vs.tl (Vs.tl (Vs.tl (Vs.tl (Vs.tl hvs)))))))))))))) | exact Vs.hd (Vs.tl (Vs.tl (Vs.tl (Vs.tl (Vs.tl (Vs.tl (Vs.tl (Vs.tl (Vs.tl (Vs.tl (Vs.tl (Vs.tl (Vs.tl (Vs.tl (Vs.tl hvs))))))))))))))))); (any_goals omega); rintro e w' ⟨_, _, _, _, rfl, hv, hbel⟩; have hbw' := Below.trans hbw (Below.mono hbel (Below.size hbw)); clear hbw; have hbw := hbw'; clear hbw'; have hms' := Ms.below hbel hms; clear hms; have hms := hms'; clear hms'; have hvs' := Vs.cons (Vs.below hbel hvs) hv; clear hvs; have hvs := hvs'; clear hvs' hbel hv)
      | (go_at_call 34; ((with_reducible refine' (Mul_v ?_ ?_ ?_ ?_).mono ?_)); (any_goals (first | exact Vs.hd hvs | exact Vs.hd (Vs.tl hvs) | exact Vs.hd (Vs.tl (Vs.tl hvs)) | exact Vs.hd (Vs.tl (Vs.tl (Vs.tl hvs))) | exact Vs.hd (Vs.tl (Vs.tl (Vs.tl (Vs.tl hvs)))) | exact Vs.hd (Vs.tl (Vs.tl (Vs.tl (Vs.tl (Vs.tl hvs))))) | exact Vs.hd (Vs.tl (Vs.tl (Vs.tl (Vs.tl (Vs.tl (Vs.tl hvs)))))) | exact Vs.hd (Vs.tl (Vs.tl (Vs.tl (Vs.tl (Vs.tl (Vs.tl (Vs.tl hvs))))))) | exact Vs.hd (Vs.tl (Vs.tl (Vs.tl (Vs.tl (Vs.tl (Vs.tl (Vs.tl (Vs.tl hvs)))))))) | exact Vs.hd (Vs.tl (Vs.tl (Vs.tl (Vs.tl (Vs.tl (Vs.tl (Vs.tl (Vs.tl (Vs.tl hvs))))))))) | exact Vs.hd (Vs.tl (Vs.tl (Vs.tl (Vs.tl (Vs.tl (Vs.tl (Vs.tl (Vs.tl (Vs.tl (Vs.tl hvs)))))))))) | exact Vs.hd (Vs.tl (Vs.tl (Vs.tl (Vs.tl (Vs.tl (Vs.tl (Vs.tl (Vs.tl (Vs.tl (Vs.tl (Vs.tl hvs))))))))))) | exact Vs.hd (Vs.tl (Vs.tl (Vs.tl (Vs.tl (Vs.tl (Vs.tl (Vs.tl (Vs.tl (Vs.tl (Vs.tl (Vs.tl (Vs.tl hvs)))))))))))) | exact Vs.hd (Vs.tl (Vs.tl (Vs.tl (Vs.tl (Vs.tl (Vs.tl (Vs.tl (Vs.tl (Vs.tl (Vs.tl (Vs.tl (Vs.tl (Vs.tl hvs))))))))))))) | exact Vs.hd (Vs.tl (Vs.tl (Vs.tl (Vs.tl (Vs.tl (Vs.tl (Vs.tl (Vs.tl (Vs.tl (Vs.tl (Vs.tl (Vs.tl (Vs.tl (Vs.tl hvs)))))))))))))) | exact Vs.hd (Vs.tl (Vs.tl (Vs.tl (Vs.tl (Vs.tl (Vs.tl (Vs.tl (Vs.tl (Vs.tl (Vs.tl (Vs.tl (Vs.tl (Vs.tl (Vs.tl (Vs.tl hvs))))))))))))))))); (any_goals omega); rintro e w' ⟨_, _, _, _, rfl, hv, hbel⟩; have hbw' := Below.trans hbw (Below.mono hbel (Below.size hbw)); clear hbw; have hbw := hbw'; clear hbw'; have hms' := Ms.below hbel hms; clear hms; have hms := hms'; clear hms'; have hvs' := Vs.cons (Vs.below hbel hvs) hv; clear hvs; have hvs := hvs'; clear hvs' hbel hv)
      | (go_at_call 26; ((with_reducible refine' (Normal_v ?_ ?_).mono ?_)); (any_goals (first | exact Vs.hd hvs | exact Vs.hd (Vs.tl hvs) | exact Vs.hd (Vs.tl (Vs.tl hvs)) | exact Vs.hd (Vs.tl (Vs.tl (Vs.tl hvs))) | exact Vs.hd (Vs.tl (Vs.tl (Vs.tl (Vs.tl hvs)))) | exact Vs.hd (Vs.tl (Vs.tl (Vs.tl (Vs.tl (Vs.tl hvs))))) | exact Vs.hd (Vs.tl (Vs.tl (Vs.tl (Vs.tl (Vs.tl (Vs.tl hvs)))))) | exact Vs.hd (Vs.tl (Vs.tl (Vs.tl (Vs.tl (Vs.tl (Vs.tl (Vs.tl hvs))))))) | exact Vs.hd (Vs.tl (Vs.tl (Vs.tl (Vs.tl (Vs.tl (Vs.tl (Vs.tl (Vs.tl hvs)))))))) | exact Vs.hd (Vs.tl (Vs.tl (Vs.tl (Vs.tl (Vs.tl (Vs.tl (Vs.tl (Vs.tl (Vs.tl hvs))))))))) | exact Vs.hd (Vs.tl (Vs.tl (Vs.tl (Vs.tl (Vs.tl (Vs.tl (Vs.tl (Vs.tl (Vs.tl (Vs.tl hvs)))))))))) | exact Vs.hd (Vs.tl (Vs.tl (Vs.tl (Vs.tl (Vs.tl (Vs.tl (Vs.tl (Vs.tl (Vs.tl (Vs.tl (Vs.tl hvs))))))))))) | exact Vs.hd (Vs.tl (Vs.tl (Vs.tl (Vs.tl (Vs.tl (Vs.tl (Vs.tl (Vs.tl (Vs.tl (Vs.tl (Vs.tl (Vs.tl hvs)))))))))))) | exact Vs.hd (Vs.tl (Vs.tl (Vs.tl (Vs.tl (Vs.tl (Vs.tl (Vs.tl (Vs.tl (Vs.tl (Vs.tl (Vs.tl (Vs.tl (Vs.tl hvs))))))))))))) | exact Vs.hd (Vs.tl (Vs.tl (Vs.tl (Vs.tl (Vs.tl (Vs.tl (Vs.tl (Vs.tl (Vs.tl (Vs.tl (Vs.tl (Vs.tl (Vs.tl (Vs.tl hvs)))))))))))))) | exact Vs.hd (Vs.tl (Vs.tl (Vs.tl (Vs.tl (Vs.tl (Vs.tl (Vs.tl (Vs.tl (Vs.tl (Vs.tl (Vs.tl (Vs.tl (Vs.tl (Vs.tl (Vs.tl hvs))))))))))))))))); (any_goals omega); rintro e w' ⟨_, _, _, _, rfl, hv, hbel⟩; have hbw' := Below.trans hbw (Below.mono hbel (Below.size hbw)); clear hbw; have hbw := hbw'; clear hbw'; have hms' := Ms.below hbel hms; clear hms; have hms := hms'; clear hms'; have hvs' := Vs.cons (Vs.below hbel hvs) hv; clear hvs; have hvs := hvs'; clear hvs' hbel hv)
      | (go_at_call 24; ((with_reducible refine' (Same_v ?_ ?_ HE5.out ?_).mono ?_)); (any_goals (first | exact Vs.hd hvs | exact Vs.hd (Vs.tl hvs) | exact Vs.hd (Vs.tl (Vs.tl hvs)) | exact Vs.hd (Vs.tl (Vs.tl (Vs.tl hvs))) | exact Vs.hd (Vs.tl (Vs.tl (Vs.tl (Vs.tl hvs)))) | exact Vs.hd (Vs.tl (Vs.tl (Vs.tl (Vs.tl (Vs.tl hvs))))) | exact Vs.hd (Vs.tl (Vs.tl (Vs.tl (Vs.tl (Vs.tl (Vs.tl hvs)))))) | exact Vs.hd (Vs.tl (Vs.tl (Vs.tl (Vs.tl (Vs.tl (Vs.tl (Vs.tl hvs))))))) | exact Vs.hd (Vs.tl (Vs.tl (Vs.tl (Vs.tl (Vs.tl (Vs.tl (Vs.tl (Vs.tl hvs)))))))) | exact Vs.hd (Vs.tl (Vs.tl (Vs.tl (Vs.tl (Vs.tl (Vs.tl (Vs.tl (Vs.tl (Vs.tl hvs))))))))) | exact Vs.hd (Vs.tl (Vs.tl (Vs.tl (Vs.tl (Vs.tl (Vs.tl (Vs.tl (Vs.tl (Vs.tl (Vs.tl hvs)))))))))) | exact Vs.hd (Vs.tl (Vs.tl (Vs.tl (Vs.tl (Vs.tl (Vs.tl (Vs.tl (Vs.tl (Vs.tl (Vs.tl (Vs.tl hvs))))))))))) | exact Vs.hd (Vs.tl (Vs.tl (Vs.tl (Vs.tl (Vs.tl (Vs.tl (Vs.tl (Vs.tl (Vs.tl (Vs.tl (Vs.tl (Vs.tl hvs)))))))))))) | exact Vs.hd (Vs.tl (Vs.tl (Vs.tl (Vs.tl (Vs.tl (Vs.tl (Vs.tl (Vs.tl (Vs.tl (Vs.tl (Vs.tl (Vs.tl (Vs.tl hvs))))))))))))) | exact Vs.hd (Vs.tl (Vs.tl (Vs.tl (Vs.tl (Vs.tl (Vs.tl (Vs.tl (Vs.tl (Vs.tl (Vs.tl (Vs.tl (Vs.tl (Vs.tl (Vs.tl hvs)))))))))))))) | exact Vs.hd (Vs.tl (Vs.tl (Vs.tl (Vs.tl (Vs.tl (Vs.tl (Vs.tl (Vs.tl (Vs.tl (Vs.tl (Vs.tl (Vs.tl (Vs.tl (Vs.tl (Vs.tl hvs))))))))))))))))); (any_goals omega); rintro e w' ⟨rfl, hbel⟩; have hbw' := Below.trans hbw (Below.mono hbel (Below.size hbw)); clear hbw; have hbw := hbw'; clear hbw'; have hms' := Ms.below hbel hms; clear hms; have hms := hms'; clear hms'; have hvs' := Vs.below hbel hvs; clear hvs; have hvs := hvs'; clear hvs' hbel)
      | (go_at_call 28; ((with_reducible refine' (Cmp_v2 ?_ ?_ HR0.out).mono ?_)); (any_goals (first | exact Vs.hd hvs | exact Vs.hd (Vs.tl hvs) | exact Vs.hd (Vs.tl (Vs.tl hvs)) | exact Vs.hd (Vs.tl (Vs.tl (Vs.tl hvs))) | exact Vs.hd (Vs.tl (Vs.tl (Vs.tl (Vs.tl hvs)))) | exact Vs.hd (Vs.tl (Vs.tl (Vs.tl (Vs.tl (Vs.tl hvs))))) | exact Vs.hd (Vs.tl (Vs.tl (Vs.tl (Vs.tl (Vs.tl (Vs.tl hvs)))))) | exact Vs.hd (Vs.tl (Vs.tl (Vs.tl (Vs.tl (Vs.tl (Vs.tl (Vs.tl hvs))))))) | exact Vs.hd (Vs.tl (Vs.tl (Vs.tl (Vs.tl (Vs.tl (Vs.tl (Vs.tl (Vs.tl hvs)))))))) | exact Vs.hd (Vs.tl (Vs.tl (Vs.tl (Vs.tl (Vs.tl (Vs.tl (Vs.tl (Vs.tl (Vs.tl hvs))))))))) | exact Vs.hd (Vs.tl (Vs.tl (Vs.tl (Vs.tl (Vs.tl (Vs.tl (Vs.tl (Vs.tl (Vs.tl (Vs.tl hvs)))))))))) | exact Vs.hd (Vs.tl (Vs.tl (Vs.tl (Vs.tl (Vs.tl (Vs.tl (Vs.tl (Vs.tl (Vs.tl (Vs.tl (Vs.tl hvs))))))))))) | exact Vs.hd (Vs.tl (Vs.tl (Vs.tl (Vs.tl (Vs.tl (Vs.tl (Vs.tl (Vs.tl (Vs.tl (Vs.tl (Vs.tl (Vs.tl hvs)))))))))))) | exact Vs.hd (Vs.tl (Vs.tl (Vs.tl (Vs.tl (Vs.tl (Vs.tl (Vs.tl (Vs.tl (Vs.tl (Vs.tl (Vs.tl (Vs.tl (Vs.tl hvs))))))))))))) | exact Vs.hd (Vs.tl (Vs.tl (Vs.tl (Vs.tl (Vs.tl (Vs.tl (Vs.tl (Vs.tl (Vs.tl (Vs.tl (Vs.tl (Vs.tl (Vs.tl (Vs.tl hvs)))))))))))))) | exact Vs.hd (Vs.tl (Vs.tl (Vs.tl (Vs.tl (Vs.tl (Vs.tl (Vs.tl (Vs.tl (Vs.tl (Vs.tl (Vs.tl (Vs.tl (Vs.tl (Vs.tl (Vs.tl hvs))))))))))))))))); rintro e w' ⟨rfl, hbel⟩; have hbw' := Below.trans hbw (Below.mono hbel (Below.size hbw)); clear hbw; have hbw := hbw'; clear hbw'; have hms' := Ms.below hbel hms; clear hms; have hms := hms'; clear hms'; have hvs' := Vs.below hbel hvs; clear hvs; have hvs := hvs'; clear hvs' hbel)
      | (go_at_call 28; ((with_reducible refine' (Cmp_v2 ?_ ?_ HRS.out).mono ?_)); (any_goals (first | exact Vs.hd hvs | exact Vs.hd (Vs.tl hvs) | exact Vs.hd (Vs.tl (Vs.tl hvs)) | exact Vs.hd (Vs.tl (Vs.tl (Vs.tl hvs))) | exact Vs.hd (Vs.tl (Vs.tl (Vs.tl (Vs.tl hvs)))) | exact Vs.hd (Vs.tl (Vs.tl (Vs.tl (Vs.tl (Vs.tl hvs))))) | exact Vs.hd (Vs.tl (Vs.tl (Vs.tl (Vs.tl (Vs.tl (Vs.tl hvs)))))) | exact Vs.hd (Vs.tl (Vs.tl (Vs.tl (Vs.tl (Vs.tl (Vs.tl (Vs.tl hvs))))))) | exact Vs.hd (Vs.tl (Vs.tl (Vs.tl (Vs.tl (Vs.tl (Vs.tl (Vs.tl (Vs.tl hvs)))))))) | exact Vs.hd (Vs.tl (Vs.tl (Vs.tl (Vs.tl (Vs.tl (Vs.tl (Vs.tl (Vs.tl (Vs.tl hvs))))))))) | exact Vs.hd (Vs.tl (Vs.tl (Vs.tl (Vs.tl (Vs.tl (Vs.tl (Vs.tl (Vs.tl (Vs.tl (Vs.tl hvs)))))))))) | exact Vs.hd (Vs.tl (Vs.tl (Vs.tl (Vs.tl (Vs.tl (Vs.tl (Vs.tl (Vs.tl (Vs.tl (Vs.tl (Vs.tl hvs))))))))))) | exact Vs.hd (Vs.tl (Vs.tl (Vs.tl (Vs.tl (Vs.tl (Vs.tl (Vs.tl (Vs.tl (Vs.tl (Vs.tl (Vs.tl (Vs.tl hvs)))))))))))) | exact Vs.hd (Vs.tl (Vs.tl (Vs.tl (Vs.tl (Vs.tl (Vs.tl (Vs.tl (Vs.tl (Vs.tl (Vs.tl (Vs.tl (Vs.tl (Vs.tl hvs))))))))))))) | exact Vs.hd (Vs.tl (Vs.tl (Vs.tl (Vs.tl (Vs.tl (Vs.tl (Vs.tl (Vs.tl (Vs.tl (Vs.tl (Vs.tl (Vs.tl (Vs.tl (Vs.tl hvs)))))))))))))) | exact Vs.hd (Vs.tl (Vs.tl (Vs.tl (Vs.tl (Vs.tl (Vs.tl (Vs.tl (Vs.tl (Vs.tl (Vs.tl (Vs.tl (Vs.tl (Vs.tl (Vs.tl (Vs.tl hvs))))))))))))))))); rintro e w' ⟨rfl, hbel⟩; have hbw' := Below.trans hbw (Below.mono hbel (Below.size hbw)); clear hbw; have hbw := hbw'; clear hbw'; have hms' := Ms.below hbel hms; clear hms; have hms := hms'; clear hms'; have hvs' := Vs.below hbel hvs; clear hvs; have hvs := hvs'; clear hvs' hbel)
      | (go_at_call 28; ((with_reducible refine' (Cmp_v2 ?_ ?_ HS0.out).mono ?_)); (any_goals (first | exact Vs.hd hvs | exact Vs.hd (Vs.tl hvs) | exact Vs.hd (Vs.tl (Vs.tl hvs)) | exact Vs.hd (Vs.tl (Vs.tl (Vs.tl hvs))) | exact Vs.hd (Vs.tl (Vs.tl (Vs.tl (Vs.tl hvs)))) | exact Vs.hd (Vs.tl (Vs.tl (Vs.tl (Vs.tl (Vs.tl hvs))))) | exact Vs.hd (Vs.tl (Vs.tl (Vs.tl (Vs.tl (Vs.tl (Vs.tl hvs)))))) | exact Vs.hd (Vs.tl (Vs.tl (Vs.tl (Vs.tl (Vs.tl (Vs.tl (Vs.tl hvs))))))) | exact Vs.hd (Vs.tl (Vs.tl (Vs.tl (Vs.tl (Vs.tl (Vs.tl (Vs.tl (Vs.tl hvs)))))))) | exact Vs.hd (Vs.tl (Vs.tl (Vs.tl (Vs.tl (Vs.tl (Vs.tl (Vs.tl (Vs.tl (Vs.tl hvs))))))))) | exact Vs.hd (Vs.tl (Vs.tl (Vs.tl (Vs.tl (Vs.tl (Vs.tl (Vs.tl (Vs.tl (Vs.tl (Vs.tl hvs)))))))))) | exact Vs.hd (Vs.tl (Vs.tl (Vs.tl (Vs.tl (Vs.tl (Vs.tl (Vs.tl (Vs.tl (Vs.tl (Vs.tl (Vs.tl hvs))))))))))) | exact Vs.hd (Vs.tl (Vs.tl (Vs.tl (Vs.tl (Vs.tl (Vs.tl (Vs.tl (Vs.tl (Vs.tl (Vs.tl (Vs.tl (Vs.tl hvs)))))))))))) | exact Vs.hd (Vs.tl (Vs.tl (Vs.tl (Vs.tl (Vs.tl (Vs.tl (Vs.tl (Vs.tl (Vs.tl (Vs.tl (Vs.tl (Vs.tl (Vs.tl hvs))))))))))))) | exact Vs.hd (Vs.tl (Vs.tl (Vs.tl (Vs.tl (Vs.tl (Vs.tl (Vs.tl (Vs.tl (Vs.tl (Vs.tl (Vs.tl (Vs.tl (Vs.tl (Vs.tl hvs)))))))))))))) | exact Vs.hd (Vs.tl (Vs.tl (Vs.tl (Vs.tl (Vs.tl (Vs.tl (Vs.tl (Vs.tl (Vs.tl (Vs.tl (Vs.tl (Vs.tl (Vs.tl (Vs.tl (Vs.tl hvs))))))))))))))))); rintro e w' ⟨rfl, hbel⟩; have hbw' := Below.trans hbw (Below.mono hbel (Below.size hbw)); clear hbw; have hbw := hbw'; clear hbw'; have hms' := Ms.below hbel hms; clear hms; have hms := hms'; clear hms'; have hvs' := Vs.below hbel hvs; clear hvs; have hvs := hvs'; clear hvs' hbel)
      | (go_at_call 28; ((with_reducible refine' (Cmp_v2 ?_ ?_ HT0.out).mono ?_)); (any_goals (first | exact Vs.hd hvs | exact Vs.hd (Vs.tl hvs) | exact Vs.hd (Vs.tl (Vs.tl hvs)) | exact Vs.hd (Vs.tl (Vs.tl (Vs.tl hvs))) | exact Vs.hd (Vs.tl (Vs.tl (Vs.tl (Vs.tl hvs)))) | exact Vs.hd (Vs.tl (Vs.tl (Vs.tl (Vs.tl (Vs.tl hvs))))) | exact Vs.hd (Vs.tl (Vs.tl (Vs.tl (Vs.tl (Vs.tl (Vs.tl hvs)))))) | exact Vs.hd (Vs.tl (Vs.tl (Vs.tl (Vs.tl (Vs.tl (Vs.tl (Vs.tl hvs))))))) | exact Vs.hd (Vs.tl (Vs.tl (Vs.tl (Vs.tl (Vs.tl (Vs.tl (Vs.tl (Vs.tl hvs)))))))) | exact Vs.hd (Vs.tl (Vs.tl (Vs.tl (Vs.tl (Vs.tl (Vs.tl (Vs.tl (Vs.tl (Vs.tl hvs))))))))) | exact Vs.hd (Vs.tl (Vs.tl (Vs.tl (Vs.tl (Vs.tl (Vs.tl (Vs.tl (Vs.tl (Vs.tl (Vs.tl hvs)))))))))) | exact Vs.hd (Vs.tl (Vs.tl (Vs.tl (Vs.tl (Vs.tl (Vs.tl (Vs.tl (Vs.tl (Vs.tl (Vs.tl (Vs.tl hvs))))))))))) | exact Vs.hd (Vs.tl (Vs.tl (Vs.tl (Vs.tl (Vs.tl (Vs.tl (Vs.tl (Vs.tl (Vs.tl (Vs.tl (Vs.tl (Vs.tl hvs)))))))))))) | exact Vs.hd (Vs.tl (Vs.tl (Vs.tl (Vs.tl (Vs.tl (Vs.tl (Vs.tl (Vs.tl (Vs.tl (Vs.tl (Vs.tl (Vs.tl (Vs.tl hvs))))))))))))) | exact Vs.hd (Vs.tl (Vs.tl (Vs.tl (Vs.tl (Vs.tl (Vs.tl (Vs.tl (Vs.tl (Vs.tl (Vs.tl (Vs.tl (Vs.tl (Vs.tl (Vs.tl hvs)))))))))))))) | exact Vs.hd (Vs.tl (Vs.tl (Vs.tl (Vs.tl (Vs.tl (Vs.tl (Vs.tl (Vs.tl (Vs.tl (Vs.tl (Vs.tl (Vs.tl (Vs.tl (Vs.tl (Vs.tl hvs))))))))))))))))); rintro e w' ⟨rfl, hbel⟩; have hbw' := Below.trans hbw (Below.mono hbel (Below.size hbw)); clear hbw; have hbw := hbw'; clear hbw'; have hms' := Ms.below hbel hms; clear hms; have hms := hms'; clear hms'; have hvs' := Vs.below hbel hvs; clear hvs; have hvs := hvs'; clear hvs' hbel)
          | (go_at_call 20; ((with_reducible refine (awake_any _).mono ?_)); rintro e w' ⟨rfl, hbel⟩; have hbw' := Below.trans hbw (Below.mono hbel (Below.size hbw)); clear hbw; have hbw := hbw'; clear hbw'; have hms' := Ms.below hbel hms; clear hms; have hms := hms'; clear hms'; have hvs' := Vs.below hbel hvs; clear hvs; have hvs := hvs'; clear hvs' hbel))
        all_goals go_wp2
        all_goals go_ret
        all_goals exact ⟨rfl, hbw⟩
      · have HCZ : Hid (cmpI (iv ny ys) 0 = 1) := Lib.hid (by unfold cmpI; rw [if_neg (by omega), if_pos (by omega)])
        have HDE : Hid (dmE (iv ny ys) = 0) := Lib.hid (by unfold dmE; rw [if_neg h0])
        have hdr : dmR (iv nx xs) (iv ny ys) = iv nx xs % iv ny ys := by unfold dmR; rw [if_neg h0]
        have hg0 : ((Nat.gcd (iv nx xs).natAbs (iv ny ys).natAbs : Nat) : Int) ≠ 0 := by have := Nat.gcd_pos_of_pos_right (iv nx xs).natAbs (show 0 < (iv ny ys).natAbs by omega); omega
        have HDG : Hid (dmE ((Nat.gcd (iv nx xs).natAbs (iv ny ys).natAbs : Nat) : Int) = 0) := Lib.hid (by unfold dmE; rw [if_neg hg0])
        have HE5 : Hid (iv nx xs / iv ny ys * iv ny ys + dmR (iv nx xs) (iv ny ys) = iv nx xs) := Lib.hid (by rw [hdr, Int.mul_comm]; exact Int.mul_ediv_add_emod _ _)
        have hn0 := Int.emod_nonneg (iv nx xs) h0
        have hnl := Int.emod_lt (iv nx xs) h0
        obtain ⟨p1, hp3, hp4⟩ := cmpI_ge (z := dmR (iv nx xs) (iv ny ys)) (a := 0) (by rw [hdr]; omega)
        have HR0 := Lib.hid hp3
        have hp5 : decide (0 ≤ p1) = true := by rw [decide_eq_true_iff]; rw [decide_eq_false_iff_not] at hp4; omega
        have HRS : Hid (cmpI (dmR (iv nx xs) (iv ny ys)) (iv ny ys) = -1) := Lib.hid (by unfold cmpI; rw [if_pos (by rw [hdr]; omega)])
        have HS0 : Hid (cmpI (dmR (iv nx xs) ((Nat.gcd (iv nx xs).natAbs (iv ny ys).natAbs : Nat) : Int)) 0 = 0) := Lib.hid (by have : dmR (iv nx xs) ((Nat.gcd (iv nx xs).natAbs (iv ny ys).natAbs : Nat) : Int) = 0 := by { unfold dmR; rw [if_neg hg0]; exact Int.emod_eq_zero_of_dvd (gcd_dvd_s _ _) }; rw [this]; rfl)
        have HT0 : Hid (cmpI (dmR (iv ny ys) ((Nat.gcd (iv nx xs).natAbs (iv ny ys).natAbs : Nat) : Int)) 0 = 0) := Lib.hid (by have : dmR (iv ny ys) ((Nat.gcd (iv nx xs).natAbs (iv ny ys).natAbs : Nat) : Int) = 0 := by { unfold dmR; rw [if_neg hg0]; exact Int.emod_eq_zero_of_dvd (gcd_dvd_t _ _) }; rw [this]; rfl)
        clear hdr hg0 hn0 hnl hp3 hp4 hsg h0
        go_wp2_with fail
        refine' (Of_v 0 (by omega) (by omega)).mono ?_
        rintro e wn ⟨n1, A1, l1, c1, rfl, hv, hbel⟩
        have hbw' := Below.trans hbw (Below.mono hbel (Below.size hbw))
        have hms' := Ms.below hbel hms
        clear hms hbw
        have hms := hms'
        have hbw := hbw'
        clear hms' hbw'
        have hvs' := Vs.cons (Vs.below hbel hvs) hv
        clear hvs hbel hv
        have hvs := hvs'
        clear hvs'
        have hms' := Ms.new hms n1 A1 l1 c1
        have hvs' := Vs.below ((Below.refl _ _).alloc (Nat.le_refl _) (Obj.cells #[Value.bool n1, Value.slice A1 l1 c1] 24)) hvs
        have hbw' := Below.alloc hbw (Below.size hbw) (Obj.cells #[Value.bool n1, Value.slice A1 l1 c1] 24)
        clear hms hvs hbw
        have hms := hms'
        have hvs := hvs'
        have hbw := hbw'
        clear hms' hvs' hbw'
        obtain ⟨k0a, k0b⟩ := Ms.hd (Ms.tl (Ms.tl (Ms.tl hms)))
        obtain ⟨k1a, k1b⟩ := Ms.hd (Ms.tl (Ms.tl hms))
        go_wp2_with fail
        generalize hW : (wn.alloc (Obj.cells #[Value.bool n1, Value.slice A1 l1 c1] 24)) = wa at *
        generalize hzb : wn.heap.size = zb at *
        clear hW hzb
        refine' (DivMod_v (z := iv nx xs) (t := iv ny ys) (k := 6) (l := 6) ?_ ?_ ?_ ?_).mono ?_
        (any_goals (first | exact Vs.hd hvs | exact Vs.hd (Vs.tl hvs) | exact Vs.hd (Vs.tl (Vs.tl hvs)) | exact Vs.hd (Vs.tl (Vs.tl (Vs.tl hvs))) | exact Vs.hd (Vs.tl (Vs.tl (Vs.tl (Vs.tl hvs)))) | exact Vs.hd (Vs.tl (Vs.tl (Vs.tl (Vs.tl (Vs.tl hvs))))) | exact Vs.hd (Vs.tl (Vs.tl (Vs.tl (Vs.tl (Vs.tl (Vs.tl hvs)))))) | exact Vs.hd (Vs.tl (Vs.tl (Vs.tl (Vs.tl (Vs.tl (Vs.tl (Vs.tl hvs))))))) | exact Vs.hd (Vs.tl (Vs.tl (Vs.tl (Vs.tl (Vs.tl (Vs.tl (Vs.tl (Vs.tl hvs)))))))) | exact Vs.hd (Vs.tl (Vs.tl (Vs.tl (Vs.tl (Vs.tl (Vs.tl (Vs.tl (Vs.tl (Vs.tl hvs))))))))) | exact Vs.hd (Vs.tl (Vs.tl (Vs.tl (Vs.tl (Vs.tl (Vs.tl (Vs.tl (Vs.tl (Vs.tl (Vs.tl hvs)))))))))) | exact Vs.hd (Vs.tl (Vs.tl (Vs.tl (Vs.tl (Vs.tl (Vs.tl (Vs.tl (Vs.tl (Vs.tl (Vs.tl (Vs.tl hvs))))))))))) | exact Vs.hd (Vs.tl (Vs.tl (Vs.tl (Vs.tl (Vs.tl (Vs.tl (Vs.tl (Vs.tl (Vs.tl (Vs.tl (Vs.tl (Vs.tl hvs)))))))))))) | exact Vs.hd (Vs.tl (Vs.tl (Vs.tl (Vs.tl (Vs.tl (Vs.tl (Vs.tl (Vs.tl (Vs.tl (Vs.tl (Vs.tl (Vs.tl (Vs.tl hvs))))))))))))) | exact Vs.hd (Vs.tl (Vs.tl (Vs.tl (Vs.tl (Vs.tl (Vs.tl (Vs.tl (Vs.tl (Vs.tl (Vs.tl (Vs.tl (Vs.tl (Vs.tl (Vs.tl hvs)))))))))))))) | exact Vs.hd (Vs.tl (Vs.tl (Vs.tl (Vs.tl (Vs.tl (Vs.tl (Vs.tl (Vs.tl (Vs.tl (Vs.tl (Vs.tl (Vs.tl (Vs.tl (Vs.tl (Vs.tl hvs)))))))))))))))))
        (any_goals omega)
        rintro e wn ⟨n2, A2, l2, c2, n3, A3, l3, c3, rfl, hq, hr, hbel⟩
        clear k0a k0b k1a k1b
        have hbw' := Below.trans hbw (Below.mono hbel (Below.size hbw))
        have hms' := Ms.below hbel hms
        clear hms hbw
        have hms := hms'
        have hbw := hbw'
        clear hms' hbw'
        have hvs' := Vs.cons (Vs.cons (Vs.below hbel hvs) hq) hr
        clear hvs hbel hq hr
        have hvs := hvs'
        clear hvs'
        have hms' := Ms.new hms n2 A2 l2 c2
        have hvs' := Vs.below ((Below.refl _ _).alloc (Nat.le_refl _) (Obj.cells #[Value.bool n2, Value.slice A2 l2 c2] 24)) hvs
        have hbw' := Below.alloc hbw (Below.size hbw) (Obj.cells #[Value.bool n2, Value.slice A2 l2 c2] 24)
        clear hms hvs hbw
        have hms := hms'
        have hvs := hvs'
        have hbw := hbw'
        clear hms' hvs' hbw'
        have hms' := Ms.new hms n3 A3 l3 c3
        have hvs' := Vs.below ((Below.refl _ _).alloc (Nat.le_refl _) (Obj.cells #[Value.bool n3, Value.slice A3 l3 c3] 24)) hvs
        have hbw' := Below.alloc hbw (Below.size hbw) (Obj.cells #[Value.bool n3, Value.slice A3 l3 c3] 24)
        clear hms hvs hbw
        have hms := hms'
        have hvs := hvs'
        have hbw := hbw'
        clear hms' hvs' hbw'
        simp only [World.size_alloc] at hms
        rw [HDE.out]
        obtain ⟨k0a, k0b⟩ := Ms.hd (Ms.tl (Ms.tl (Ms.tl (Ms.tl hms))))
        obtain ⟨k1a, k1b⟩ := Ms.hd (Ms.tl (Ms.tl hms))
        go_wp2_with fail
        generalize hW : ((wn.alloc (Obj.cells #[Value.bool n2, Value.slice A2 l2 c2] 24)).alloc (Obj.cells #[Value.bool n3, Value.slice A3 l3 c3] 24)) = wb at *
        generalize hzq : wn.heap.size = zc at *
        clear hW hzq
        refine' (Cmp_v2 ?_ ?_ HCZ.out).mono ?_
        (any_goals (first | exact Vs.hd hvs | exact Vs.hd (Vs.tl hvs) | exact Vs.hd (Vs.tl (Vs.tl hvs)) | exact Vs.hd (Vs.tl (Vs.tl (Vs.tl hvs))) | exact Vs.hd (Vs.tl (Vs.tl (Vs.tl (Vs.tl hvs)))) | exact Vs.hd (Vs.tl (Vs.tl (Vs.tl (Vs.tl (Vs.tl hvs))))) | exact Vs.hd (Vs.tl (Vs.tl (Vs.tl (Vs.tl (Vs.tl (Vs.tl hvs)))))) | exact Vs.hd (Vs.tl (Vs.tl (Vs.tl (Vs.tl (Vs.tl (Vs.tl (Vs.tl hvs))))))) | exact Vs.hd (Vs.tl (Vs.tl (Vs.tl (Vs.tl (Vs.tl (Vs.tl (Vs.tl (Vs.tl hvs)))))))) | exact Vs.hd (Vs.tl (Vs.tl (Vs.tl (Vs.tl (Vs.tl (Vs.tl (Vs.tl (Vs.tl (Vs.tl hvs))))))))) | exact Vs.hd (Vs.tl (Vs.tl (Vs.tl (Vs.tl (Vs.tl (Vs.tl (Vs.tl (Vs.tl (Vs.tl (Vs.tl hvs)))))))))) | exact Vs.hd (Vs.tl (Vs.tl (Vs.tl (Vs.tl (Vs.tl (Vs.tl (Vs.tl (Vs.tl (Vs.tl (Vs.tl (Vs.tl hvs))))))))))) | exact Vs.hd (Vs.tl (Vs.tl (Vs.tl (Vs.tl (Vs.tl (Vs.tl (Vs.tl (Vs.tl (Vs.tl (Vs.tl (Vs.tl (Vs.tl hvs)))))))))))) | exact Vs.hd (Vs.tl (Vs.tl (Vs.tl (Vs.tl (Vs.tl (Vs.tl (Vs.tl (Vs.tl (Vs.tl (Vs.tl (Vs.tl (Vs.tl (Vs.tl hvs))))))))))))) | exact Vs.hd (Vs.tl (Vs.tl (Vs.tl (Vs.tl (Vs.tl (Vs.tl (Vs.tl (Vs.tl (Vs.tl (Vs.tl (Vs.tl (Vs.tl (Vs.tl (Vs.tl hvs)))))))))))))) | exact Vs.hd (Vs.tl (Vs.tl (Vs.tl (Vs.tl (Vs.tl (Vs.tl (Vs.tl (Vs.tl (Vs.tl (Vs.tl (Vs.tl (Vs.tl (Vs.tl (Vs.tl (Vs.tl hvs)))))))))))))))))
        rintro e wn ⟨rfl, hbel⟩
        clear k0a k0b k1a k1b
        have hbw' := Below.trans hbw (Below.mono hbel (Below.size hbw))
        have hms' := Ms.below hbel hms
        clear hms hbw
        have hms := hms'
        have hbw := hbw'
        clear hms' hbw'
        have hvs' := Vs.below hbel hvs
        clear hvs hbel
        have hvs := hvs'
        clear hvs'
        have HLT := Lib.hid (Ms.all_lt hms)
        have hgs := Below.size hbw
        obtain ⟨j0a, j0b⟩ := Ms.hd (Ms.tl (Ms.tl (Ms.tl (Ms.tl hms))))
        have hms' := Ms.new hms ny Y ys.length d
        have hvs' := Vs.below ((Below.refl _ _).alloc (Nat.le_refl _) (Obj.cells #[Value.bool ny, Value.slice Y ys.length d] 24)) hvs
        have hbw' := Below.alloc hbw (Below.size hbw) (Obj.cells #[Value.bool ny, Value.slice Y ys.length d] 24)
        clear hms hvs hbw
        have hms := hms'
        have hvs := hvs'
        have hbw := hbw'
        clear hms' hvs' hbw'
        obtain ⟨k0a, k0b⟩ := Ms.hd (Ms.tl (Ms.tl (Ms.tl (Ms.tl (Ms.tl hms)))))
        obtain ⟨k1a, k1b⟩ := Ms.hd (Ms.tl (Ms.tl (Ms.tl hms)))
        go_wp2_with fail
        generalize hW : (wn.alloc (Obj.cells #[Value.bool ny, Value.slice Y ys.length d] 24)) = wc at *
        generalize hzq : wn.heap.size = gs at *
        clear hW hzq
        refine' (Cmp_v2 ?_ ?_ HCZ.out).mono ?_
        (any_goals (first | exact Vs.hd hvs | exact Vs.hd (Vs.tl hvs) | exact Vs.hd (Vs.tl (Vs.tl hvs)) | exact Vs.hd (Vs.tl (Vs.tl (Vs.tl hvs))) | exact Vs.hd (Vs.tl (Vs.tl (Vs.tl (Vs.tl hvs)))) | exact Vs.hd (Vs.tl (Vs.tl (Vs.tl (Vs.tl (Vs.tl hvs))))) | exact Vs.hd (Vs.tl (Vs.tl (Vs.tl (Vs.tl (Vs.tl (Vs.tl hvs)))))) | exact Vs.hd (Vs.tl (Vs.tl (Vs.tl (Vs.tl (Vs.tl (Vs.tl (Vs.tl hvs))))))) | exact Vs.hd (Vs.tl (Vs.tl (Vs.tl (Vs.tl (Vs.tl (Vs.tl (Vs.tl (Vs.tl hvs)))))))) | exact Vs.hd (Vs.tl (Vs.tl (Vs.tl (Vs.tl (Vs.tl (Vs.tl (Vs.tl (Vs.tl (Vs.tl hvs))))))))) | exact Vs.hd (Vs.tl (Vs.tl (Vs.tl (Vs.tl (Vs.tl (Vs.tl (Vs.tl (Vs.tl (Vs.tl (Vs.tl hvs)))))))))) | exact Vs.hd (Vs.tl (Vs.tl (Vs.tl (Vs.tl (Vs.tl (Vs.tl (Vs.tl (Vs.tl (Vs.tl (Vs.tl (Vs.tl hvs))))))))))) | exact Vs.hd (Vs.tl (Vs.tl (Vs.tl (Vs.tl (Vs.tl (Vs.tl (Vs.tl (Vs.tl (Vs.tl (Vs.tl (Vs.tl (Vs.tl hvs)))))))))))) | exact Vs.hd (Vs.tl (Vs.tl (Vs.tl (Vs.tl (Vs.tl (Vs.tl (Vs.tl (Vs.tl (Vs.tl (Vs.tl (Vs.tl (Vs.tl (Vs.tl hvs))))))))))))) | exact Vs.hd (Vs.tl (Vs.tl (Vs.tl (Vs.tl (Vs.tl (Vs.tl (Vs.tl (Vs.tl (Vs.tl (Vs.tl (Vs.tl (Vs.tl (Vs.tl (Vs.tl hvs)))))))))))))) | exact Vs.hd (Vs.tl (Vs.tl (Vs.tl (Vs.tl (Vs.tl (Vs.tl (Vs.tl (Vs.tl (Vs.tl (Vs.tl (Vs.tl (Vs.tl (Vs.tl (Vs.tl (Vs.tl hvs)))))))))))))))))
        rintro e wn ⟨rfl, hbel⟩
        clear j0a j0b
        clear k0a k0b k1a k1b
        have hbw' := Below.trans hbw (Below.mono hbel (Below.size hbw))
        have hms' := Ms.below hbel hms
        clear hms hbw
        have hms := hms'
        have hbw := hbw'
        clear hms' hbw'
        have hvs' := Vs.below hbel hvs
        clear hvs hbel
        have hvs := hvs'
        clear hvs'
        obtain ⟨k0a, k0b⟩ := Ms.hd (Ms.tl (Ms.tl (Ms.tl (Ms.tl (Ms.tl (Ms.tl hms))))))
        obtain ⟨k1a, k1b⟩ := Ms.hd (Ms.tl (Ms.tl (Ms.tl (Ms.tl (Ms.tl hms)))))
        go_wp2_with fail
        refine' (Gcd_v (z := iv nx xs) (t := iv ny ys) ?_ ?_ ?_ ?_).mono ?_
        (any_goals (first | exact Vs.hd hvs | exact Vs.hd (Vs.tl hvs) | exact Vs.hd (Vs.tl (Vs.tl hvs)) | exact Vs.hd (Vs.tl (Vs.tl (Vs.tl hvs))) | exact Vs.hd (Vs.tl (Vs.tl (Vs.tl (Vs.tl hvs)))) | exact Vs.hd (Vs.tl (Vs.tl (Vs.tl (Vs.tl (Vs.tl hvs))))) | exact Vs.hd (Vs.tl (Vs.tl (Vs.tl (Vs.tl (Vs.tl (Vs.tl hvs)))))) | exact Vs.hd (Vs.tl (Vs.tl (Vs.tl (Vs.tl (Vs.tl (Vs.tl (Vs.tl hvs))))))) | exact Vs.hd (Vs.tl (Vs.tl (Vs.tl (Vs.tl (Vs.tl (Vs.tl (Vs.tl (Vs.tl hvs)))))))) | exact Vs.hd (Vs.tl (Vs.tl (Vs.tl (Vs.tl (Vs.tl (Vs.tl (Vs.tl (Vs.tl (Vs.tl hvs))))))))) | exact Vs.hd (Vs.tl (Vs.tl (Vs.tl (Vs.tl (Vs.tl (Vs.tl (Vs.tl (Vs.tl (Vs.tl (Vs.tl hvs)))))))))) | exact Vs.hd (Vs.tl (Vs.tl (Vs.tl (Vs.tl (Vs.tl (Vs.tl (Vs.tl (Vs.tl (Vs.tl (Vs.tl (Vs.tl hvs))))))))))) | exact Vs.hd (Vs.tl (Vs.tl (Vs.tl (Vs.tl (Vs.tl (Vs.tl (Vs.tl (Vs.tl (Vs.tl (Vs.tl (Vs.tl (Vs.tl hvs)))))))))))) | exact Vs.hd (Vs.tl (Vs.tl (Vs.tl (Vs.tl (Vs.tl (Vs.tl (Vs.tl (Vs.tl (Vs.tl (Vs.tl (Vs.tl (Vs.tl (Vs.tl hvs))))))))))))) | exact Vs.hd (Vs.tl (Vs.tl (Vs.tl (Vs.tl (Vs.tl (Vs.tl (Vs.tl (Vs.tl (Vs.tl (Vs.tl (Vs.tl (Vs.tl (Vs.tl (Vs.tl hvs)))))))))))))) | exact Vs.hd (Vs.tl (Vs.tl (Vs.tl (Vs.tl (Vs.tl (Vs.tl (Vs.tl (Vs.tl (Vs.tl (Vs.tl (Vs.tl (Vs.tl (Vs.tl (Vs.tl (Vs.tl hvs)))))))))))))))))
        (any_goals omega)
        rintro e wn ⟨n6, A6, l6, c6, rfl, hv, hbel⟩
        clear k0a k0b k1a k1b
        have hbw' := Below.trans hbw (Below.mono hbel (Below.size hbw))
        have hms' := Ms.below hbel hms
        clear hms hbw
        have hms := hms'
        have hbw := hbw'
        clear hms' hbw'
        have hvs' := Vs.cons (Vs.below hbel hvs) hv
        clear hvs hbel hv
        have hvs := hvs'
        clear hvs'
        have hms' := Ms.new hms n6 A6 l6 c6
        have hvs' := Vs.below ((Below.refl _ _).alloc (Nat.le_refl _) (Obj.cells #[Value.bool n6, Value.slice A6 l6 c6] 24)) hvs
        have hbw' := Below.alloc hbw (Below.size hbw) (Obj.cells #[Value.bool n6, Value.slice A6 l6 c6] 24)
        clear hms hvs hbw
        have hms := hms'
        have hvs := hvs'
        have hbw := hbw'
        clear hms' hvs' hbw'
        obtain ⟨k0a, k0b⟩ := Ms.hd (Ms.tl (Ms.tl (Ms.tl (Ms.tl (Ms.tl (Ms.tl (Ms.tl hms)))))))
        obtain ⟨k1a, k1b⟩ := Ms.hd hms
        go_wp2_with fail
        generalize hW : (wn.alloc (Obj.cells #[Value.bool n6, Value.slice A6 l6 c6] 24)) = wf at *
        generalize hzq : wn.heap.size = zg at *
        clear hW hzq
        refine' (DivMod_v (z := iv nx xs) (t := ((Nat.gcd (iv nx xs).natAbs (iv ny ys).natAbs : Nat) : Int)) ?_ ?_ ?_ ?_).mono ?_
        (any_goals (first | exact Vs.hd hvs | exact Vs.hd (Vs.tl hvs) | exact Vs.hd (Vs.tl (Vs.tl hvs)) | exact Vs.hd (Vs.tl (Vs.tl (Vs.tl hvs))) | exact Vs.hd (Vs.tl (Vs.tl (Vs.tl (Vs.tl hvs)))) | exact Vs.hd (Vs.tl (Vs.tl (Vs.tl (Vs.tl (Vs.tl hvs))))) | exact Vs.hd (Vs.tl (Vs.tl (Vs.tl (Vs.tl (Vs.tl (Vs.tl hvs)))))) | exact Vs.hd (Vs.tl (Vs.tl (Vs.tl (Vs.tl (Vs.tl (Vs.tl (Vs.tl hvs))))))) | exact Vs.hd (Vs.tl (Vs.tl (Vs.tl (Vs.tl (Vs.tl (Vs.tl (Vs.tl (Vs.tl hvs)))))))) | exact Vs.hd (Vs.tl (Vs.tl (Vs.tl (Vs.tl (Vs.tl (Vs.tl (Vs.tl (Vs.tl (Vs.tl hvs))))))))) | exact Vs.hd (Vs.tl (Vs.tl (Vs.tl (Vs.tl (Vs.tl (Vs.tl (Vs.tl (Vs.tl (Vs.tl (Vs.tl hvs)))))))))) | exact Vs.hd (Vs.tl (Vs.tl (Vs.tl (Vs.tl (Vs.tl (Vs.tl (Vs.tl (Vs.tl (Vs.tl (Vs.tl (Vs.tl hvs))))))))))) | exact Vs.hd (Vs.tl (Vs.tl (Vs.tl (Vs.tl (Vs.tl (Vs.tl (Vs.tl (Vs.tl (Vs.tl (Vs.tl (Vs.tl (Vs.tl hvs)))))))))))) | exact Vs.hd (Vs.tl (Vs.tl (Vs.tl (Vs.tl (Vs.tl (Vs.tl (Vs.tl (Vs.tl (Vs.tl (Vs.tl (Vs.tl (Vs.tl (Vs.tl hvs))))))))))))) | exact Vs.hd (Vs.tl (Vs.tl (Vs.tl (Vs.tl (Vs.tl (Vs.tl (Vs.tl (Vs.tl (Vs.tl (Vs.tl (Vs.tl (Vs.tl (Vs.tl (Vs.tl hvs)))))))))))))) | exact Vs.hd (Vs.tl (Vs.tl (Vs.tl (Vs.tl (Vs.tl (Vs.tl (Vs.tl (Vs.tl (Vs.tl (Vs.tl (Vs.tl (Vs.tl (Vs.tl (Vs.tl (Vs.tl hvs)))))))))))))))))
        (any_goals omega)
        rintro e wn ⟨n7, A7, l7, c7, n8, A8, l8, c8, rfl, hq, hr, hbel⟩
        rw [HDG.out]
        clear k0a k0b k1a k1b
        have hbw' := Below.trans hbw (Below.mono hbel (Below.size hbw))
        have hms' := Ms.below hbel hms
        clear hms hbw
        have hms := hms'
        have hbw := hbw'
        clear hms' hbw'
        have hvs' := Vs.cons (Vs.cons (Vs.below hbel hvs) hq) hr
        clear hvs hbel hq hr
        have hvs := hvs'
        clear hvs'
        have hms' := Ms.new hms n7 A7 l7 c7
        have hvs' := Vs.below ((Below.refl _ _).alloc (Nat.le_refl _) (Obj.cells #[Value.bool n7, Value.slice A7 l7 c7] 24)) hvs
        have hbw' := Below.alloc hbw (Below.size hbw) (Obj.cells #[Value.bool n7, Value.slice A7 l7 c7] 24)
        clear hms hvs hbw
        have hms := hms'
        have hvs := hvs'
        have hbw := hbw'
        clear hms' hvs' hbw'
        have hms' := Ms.new hms n8 A8 l8 c8
        have hvs' := Vs.below ((Below.refl _ _).alloc (Nat.le_refl _) (Obj.cells #[Value.bool n8, Value.slice A8 l8 c8] 24)) hvs
        have hbw' := Below.alloc hbw (Below.size hbw) (Obj.cells #[Value.bool n8, Value.slice A8 l8 c8] 24)
        clear hms hvs hbw
        have hms := hms'
        have hvs := hvs'
        have hbw := hbw'
        clear hms' hvs' hbw'
        simp only [World.size_alloc] at hms
        obtain ⟨k0a, k0b⟩ := Ms.hd (Ms.tl (Ms.tl (Ms.tl (Ms.tl (Ms.tl (Ms.tl (Ms.tl (Ms.tl hms))))))))
        obtain ⟨k1a, k1b⟩ := Ms.hd (Ms.tl (Ms.tl hms))
        go_wp2_with fail
        generalize hW : ((wn.alloc (Obj.cells #[Value.bool n7, Value.slice A7 l7 c7] 24)).alloc (Obj.cells #[Value.bool n8, Value.slice A8 l8 c8] 24)) = wh at *
        generalize hzq : wn.heap.size = zs1 at *
        clear hW hzq
        refine' (DivMod_v (z := iv ny ys) (t := ((Nat.gcd (iv nx xs).natAbs (iv ny ys).natAbs : Nat) : Int)) ?_ ?_ ?_ ?_).mono ?_
        (any_goals (first | exact Vs.hd hvs | exact Vs.hd (Vs.tl hvs) | exact Vs.hd (Vs.tl (Vs.tl hvs)) | exact Vs.hd (Vs.tl (Vs.tl (Vs.tl hvs))) | exact Vs.hd (Vs.tl (Vs.tl (Vs.tl (Vs.tl hvs)))) | exact Vs.hd (Vs.tl (Vs.tl (Vs.tl (Vs.tl (Vs.tl hvs))))) | exact Vs.hd (Vs.tl (Vs.tl (Vs.tl (Vs.tl (Vs.tl (Vs.tl hvs)))))) | exact Vs.hd (Vs.tl (Vs.tl (Vs.tl (Vs.tl (Vs.tl (Vs.tl (Vs.tl hvs))))))) | exact Vs.hd (Vs.tl (Vs.tl (Vs.tl (Vs.tl (Vs.tl (Vs.tl (Vs.tl (Vs.tl hvs)))))))) | exact Vs.hd (Vs.tl (Vs.tl (Vs.tl (Vs.tl (Vs.tl (Vs.tl (Vs.tl (Vs.tl (Vs.tl hvs))))))))) | exact Vs.hd (Vs.tl (Vs.tl (Vs.tl (Vs.tl (Vs.tl (Vs.tl (Vs.tl (Vs.tl (Vs.tl (Vs.tl hvs)))))))))) | exact Vs.hd (Vs.tl (Vs.tl (Vs.tl (Vs.tl (Vs.tl (Vs.tl (Vs.tl (Vs.tl (Vs.tl (Vs.tl (Vs.tl hvs))))))))))) | exact Vs.hd (Vs.tl (Vs.tl (Vs.tl (Vs.tl (Vs.tl (Vs.tl (Vs.tl (Vs.tl (Vs.tl (Vs.tl (Vs.tl (Vs.tl hvs)))))))))))) | exact Vs.hd (Vs.tl (Vs.tl (Vs.tl (Vs.tl (Vs.tl (Vs.tl (Vs.tl (Vs.tl (Vs.tl (Vs.tl (Vs.tl (Vs.tl (Vs.tl hvs))))))))))))) | exact Vs.hd (Vs.tl (Vs.tl (Vs.tl (Vs.tl (Vs.tl (Vs.tl (Vs.tl (Vs.tl (Vs.tl (Vs.tl (Vs.tl (Vs.tl (Vs.tl (Vs.tl hvs)))))))))))))) | exact Vs.hd (Vs.tl (Vs.tl (Vs.tl (Vs.tl (Vs.tl (Vs.tl (Vs.tl (Vs.tl (Vs.tl (Vs.tl (Vs.tl (Vs.tl (Vs.tl (Vs.tl (Vs.tl hvs)))))))))))))))))
        (any_goals omega)
        rintro e wn ⟨n9, A9, l9, c9, n10, A10, l10, c10, rfl, hq, hr, hbel⟩
        rw [HDG.out]
        clear k0a k0b k1a k1b
        have hbw' := Below.trans hbw (Below.mono hbel (Below.size hbw))
        have hms' := Ms.below hbel hms
        clear hms hbw
        have hms := hms'
        have hbw := hbw'
        clear hms' hbw'
        have hvs' := Vs.cons (Vs.cons (Vs.below hbel hvs) hq) hr
        clear hvs hbel hq hr
        have hvs := hvs'
        clear hvs'
        have hms' := Ms.new hms n9 A9 l9 c9
        have hvs' := Vs.below ((Below.refl _ _).alloc (Nat.le_refl _) (Obj.cells #[Value.bool n9, Value.slice A9 l9 c9] 24)) hvs
        have hbw' := Below.alloc hbw (Below.size hbw) (Obj.cells #[Value.bool n9, Value.slice A9 l9 c9] 24)
        clear hms hvs hbw
        have hms := hms'
        have hvs := hvs'
        have hbw := hbw'
        clear hms' hvs' hbw'
        have hms' := Ms.new hms n10 A10 l10 c10
        have hvs' := Vs.below ((Below.refl _ _).alloc (Nat.le_refl _) (Obj.cells #[Value.bool n10, Value.slice A10 l10 c10] 24)) hvs
        have hbw' := Below.alloc hbw (Below.size hbw) (Obj.cells #[Value.bool n10, Value.slice A10 l10 c10] 24)
        clear hms hvs hbw
        have hms := hms'
        have hvs := hvs'
        have hbw := hbw'
        clear hms' hvs' hbw'
        simp only [World.size_alloc] at hms
        go_wp2_with fail
        generalize hW : ((wn.alloc (Obj.cells #[Value.bool n9, Value.slice A9 l9 c9] 24)).alloc (Obj.cells #[Value.bool n10, Value.slice A10 l10 c10] 24)) = wj at *
        generalize hzq : wn.heap.size = zt1 at *
        clear hW hzq
        have hvs' := Vs.draw hvs
        have hms' := Ms.draw hms
        have hbw' := Below.drew hbw
        clear hvs hms hbw
        have hvs := hvs'
        have hms := hms'
        have hbw := hbw'
        clear hvs' hms' hbw'
        go_region_held3 (fun w' => (w'.cell? ⟨w.heap.size, 0, none⟩ = some (.bool nx) ∧ w'.cell? ⟨w.heap.size, 1, none⟩ = some (.slice X xs.length c) ∧ w'.cell? ⟨w.heap.size + 1, 0, none⟩ = some (.bool ny) ∧ w'.cell? ⟨w.heap.size + 1, 1, none⟩ = some (.slice Y ys.length d) ∧ w'.cell? ⟨zb, 0, none⟩ = some (.bool n1) ∧ w'.cell? ⟨zb, 1, none⟩ = some (.slice A1 l1 c1) ∧ w'.cell? ⟨zc, 0, none⟩ = some (.bool n2) ∧ w'.cell? ⟨zc, 1, none⟩ = some (.slice A2 l2 c2) ∧ w'.cell? ⟨zc + 1, 0, none⟩ = some (.bool n3) ∧ w'.cell? ⟨zc + 1, 1, none⟩ = some (.slice A3 l3 c3) ∧ w'.cell? ⟨gs, 0, none⟩ = some (.bool ny) ∧ w'.cell? ⟨gs, 1, none⟩ = some (.slice Y ys.length d) ∧ w'.cell? ⟨zs1 + 1, 0, none⟩ = some (.bool n8) ∧ w'.cell? ⟨zs1 + 1, 1, none⟩ = some (.slice A8 l8 c8) ∧ w'.cell? ⟨zt1 + 1, 0, none⟩ = some (.bool n10) ∧ w'.cell? ⟨zt1 + 1, 1, none⟩ = some (.slice A10 l10 c10)) ∧ Ms w' [(zt1 + 1, n10, A10, l10, c10), (zt1, n9, A9, l9, c9), (zs1 + 1, n8, A8, l8, c8), (zs1, n7, A7, l7, c7), (zg, n6, A6, l6, c6), (gs, ny, Y, ys.length, d), (zc + 1, n3, A3, l3, c3), (zc, n2, A2, l2, c2), (zb, n1, A1, l1, c1), (w.heap.size + 1 + 1, nz, Z, zs.length, f), (w.heap.size + 1, ny, Y, ys.length, d), (w.heap.size, nx, X, xs.length, c)]) (exact ⟨⟨(Ms.hd (Ms.tl (Ms.tl (Ms.tl (Ms.tl (Ms.tl (Ms.tl (Ms.tl (Ms.tl (Ms.tl (Ms.tl (Ms.tl hms)))))))))))).1, (Ms.hd (Ms.tl (Ms.tl (Ms.tl (Ms.tl (Ms.tl (Ms.tl (Ms.tl (Ms.tl (Ms.tl (Ms.tl (Ms.tl hms)))))))))))).2, (Ms.hd (Ms.tl (Ms.tl (Ms.tl (Ms.tl (Ms.tl (Ms.tl (Ms.tl (Ms.tl (Ms.tl (Ms.tl hms))))))))))).1, (Ms.hd (Ms.tl (Ms.tl (Ms.tl (Ms.tl (Ms.tl (Ms.tl (Ms.tl (Ms.tl (Ms.tl (Ms.tl hms))))))))))).2, (Ms.hd (Ms.tl (Ms.tl (Ms.tl (Ms.tl (Ms.tl (Ms.tl (Ms.tl (Ms.tl hms))))))))).1, (Ms.hd (Ms.tl (Ms.tl (Ms.tl (Ms.tl (Ms.tl (Ms.tl (Ms.tl (Ms.tl hms))))))))).2, (Ms.hd (Ms.tl (Ms.tl (Ms.tl (Ms.tl (Ms.tl (Ms.tl (Ms.tl hms)))))))).1, (Ms.hd (Ms.tl (Ms.tl (Ms.tl (Ms.tl (Ms.tl (Ms.tl (Ms.tl hms)))))))).2, (Ms.hd (Ms.tl (Ms.tl (Ms.tl (Ms.tl (Ms.tl (Ms.tl hms))))))).1, (Ms.hd (Ms.tl (Ms.tl (Ms.tl (Ms.tl (Ms.tl (Ms.tl hms))))))).2, (Ms.hd (Ms.tl (Ms.tl (Ms.tl (Ms.tl (Ms.tl hms)))))).1, (Ms.hd (Ms.tl (Ms.tl (Ms.tl (Ms.tl (Ms.tl hms)))))).2, (Ms.hd (Ms.tl (Ms.tl hms))).1, (Ms.hd (Ms.tl (Ms.tl hms))).2, (Ms.hd hms).1, (Ms.hd hms).2⟩, hms⟩)
          (first
      | (go_at_call 30; ((with_reducible refine' (Add_v ?_ ?_ ?_ ?_).mono ?_)); (any_goals (first | exact Vs.hd hvs | exact Vs.hd (Vs.tl hvs) | exact Vs.hd (Vs.tl (Vs.tl hvs)) | exact Vs.hd (Vs.tl (Vs.tl (Vs.tl hvs))) | exact Vs.hd (Vs.tl (Vs.tl (Vs.tl (Vs.tl hvs)))) | exact Vs.hd (Vs.tl (Vs.tl (Vs.tl (Vs.tl (Vs.tl hvs))))) | exact Vs.hd (Vs.tl (Vs.tl (Vs.tl (Vs.tl (Vs.tl (Vs.tl hvs)))))) | exact Vs.hd (Vs.tl (Vs.tl (Vs.tl (Vs.tl (Vs.tl (Vs.tl (Vs.tl hvs))))))) | exact Vs.hd (Vs.tl (Vs.tl (Vs.tl (Vs.tl (Vs.tl (Vs.tl (Vs.tl (Vs.tl hvs)))))))) | exact Vs.hd (Vs.tl (Vs.tl (Vs.tl (Vs.tl (Vs.tl (Vs.tl (Vs.tl (Vs.tl (Vs.tl hvs))))))))) | exact Vs.hd (Vs.tl (Vs.tl (Vs.tl (Vs.tl (Vs.tl (Vs.tl (Vs.tl (Vs.tl (Vs.tl (Vs.tl hvs)))))))))) | exact Vs.hd (Vs.tl (Vs.tl (Vs.tl (Vs.tl (Vs.tl (Vs.tl (Vs.tl (Vs.tl (Vs.tl (Vs.tl (Vs.tl hvs))))))))))) | exact Vs.hd (Vs.tl (Vs.tl (Vs.tl (Vs.tl (Vs.tl (Vs.tl (Vs.tl (Vs.tl (Vs.tl (Vs.tl (Vs.tl (Vs.tl hvs)))))))))))) | exact Vs.hd (Vs.tl (Vs.tl (Vs.tl (Vs.tl (Vs.tl (Vs.tl (Vs.tl (Vs.tl (Vs.tl (Vs.tl (Vs.tl (Vs.tl (Vs.tl hvs))))))))))))) | exact Vs.hd (Vs.tl (Vs.tl (Vs.tl (Vs.tl (Vs.tl (Vs.tl (Vs.tl (Vs.tl (Vs.tl (Vs.tl (Vs.tl (Vs.tl (Vs.tl (Vs.tl hvs)))))))))))))) | exact Vs.hd (Vs.tl (Vs.tl (Vs.tl (Vs.tl (Vs.tl (Vs.tl (Vs.tl (Vs.tl (Vs.tl (Vs.tl (Vs.tl (Vs.tl (Vs.tl (Vs.tl (Vs.tl hvs))))))))))))))))); (any_goals omega); rintro e w' ⟨_, _, _, _, rfl, hv, hbel⟩; have hbw' := Below.trans hbw (Below.mono hbel (Below.size hbw)); clear hbw; have hbw := hbw'; clear hbw'; have hms' := Ms.below hbel hms; clear hms; have hms := hms'; clear hms'; have hvs' := Vs.cons (Vs.below hbel hvs) hv; clear hvs; have hvs := hvs'; clear hvs' hbel hv)
      | (go_at_call 34; ((with_reducible refine' (Mul_v ?_ ?_ ?_ ?_).mono ?_)); (any_goals (first | exact Vs.hd hvs | exact Vs.hd (Vs.tl hvs) | exact Vs.hd (Vs.tl (Vs.tl hvs)) | exact Vs.hd (Vs.tl (Vs.tl (Vs.tl hvs))) | exact Vs.hd (Vs.tl (Vs.tl (Vs.tl (Vs.tl hvs)))) | exact Vs.hd (Vs.tl (Vs.tl (Vs.tl (Vs.tl (Vs.tl hvs))))) | exact Vs.hd (Vs.tl (Vs.tl (Vs.tl (Vs.tl (Vs.tl (Vs.tl hvs)))))) | exact Vs.hd (Vs.tl (Vs.tl (Vs.tl (Vs.tl (Vs.tl (Vs.tl (Vs.tl hvs))))))) | exact Vs.hd (Vs.tl (Vs.tl (Vs.tl (Vs.tl (Vs.tl (Vs.tl (Vs.tl (Vs.tl hvs)))))))) | exact Vs.hd (Vs.tl (Vs.tl (Vs.tl (Vs.tl (Vs.tl (Vs.tl (Vs.tl (Vs.tl (Vs.tl hvs))))))))) | exact Vs.hd (Vs.tl (Vs.tl (Vs.tl (Vs.tl (Vs.tl (Vs.tl (Vs.tl (Vs.tl (Vs.tl (Vs.tl hvs)))))))))) | exact Vs.hd (Vs.tl (Vs.tl (Vs.tl (Vs.tl (Vs.tl (Vs.tl (Vs.tl (Vs.tl (Vs.tl (Vs.tl (Vs.tl hvs))))))))))) | exact Vs.hd (Vs.tl (Vs.tl (Vs.tl (Vs.tl (Vs.tl (Vs.tl (Vs.tl (Vs.tl (Vs.tl (Vs.tl (Vs.tl (Vs.tl hvs)))))))))))) | exact Vs.hd (Vs.tl (Vs.tl (Vs.tl (Vs.tl (Vs.tl (Vs.tl (Vs.tl (Vs.tl (Vs.tl (Vs.tl (Vs.tl (Vs.tl (Vs.tl hvs))))))))))))) | exact Vs.hd (Vs.tl (Vs.tl (Vs.tl (Vs.tl (Vs.tl (Vs.tl (Vs.tl (Vs.tl (Vs.tl (Vs.tl (Vs.tl (Vs.tl (Vs.tl (Vs.tl hvs)))))))))))))) | exact Vs.hd (Vs.tl (Vs.tl (Vs.tl (Vs.tl (Vs.tl (Vs.tl (Vs.tl (Vs.tl (Vs.tl (Vs.tl (Vs.tl (Vs.tl (Vs.tl (Vs.tl (Vs.tl hvs))))))))))))))))); (any_goals omega); rintro e w' ⟨_, _, _, _, rfl, hv, hbel⟩; have hbw' := Below.trans hbw (Below.mono hbel (Below.size hbw)); clear hbw; have hbw := hbw'; clear hbw'; have hms' := Ms.below hbel hms; clear hms; have hms := hms'; clear hms'; have hvs' := Vs.cons (Vs.below hbel hvs) hv; clear hvs; have hvs := hvs'; clear hvs' hbel hv)
      | (go_at_call 26; ((with_reducible refine' (Normal_v ?_ ?_).mono ?_)); (any_goals (first | exact Vs.hd hvs | exact Vs.hd (Vs.tl hvs) | exact Vs.hd (Vs.tl (Vs.tl hvs)) | exact Vs.hd (Vs.tl (Vs.tl (Vs.tl hvs))) | exact Vs.hd (Vs.tl (Vs.tl (Vs.tl (Vs.tl hvs)))) | exact Vs.hd (Vs.tl (Vs.tl (Vs.tl (Vs.tl (Vs.tl hvs))))) | exact Vs.hd (Vs.tl (Vs.tl (Vs.tl (Vs.tl (Vs.tl (Vs.tl hvs)))))) | exact Vs.hd (Vs.tl (Vs.tl (Vs.tl (Vs.tl (Vs.tl (Vs.tl (Vs.tl hvs))))))) | exact Vs.hd (Vs.tl (Vs.tl (Vs.tl (Vs.tl (Vs.tl (Vs.tl (Vs.tl (Vs.tl hvs)))))))) | exact Vs.hd (Vs.tl (Vs.tl (Vs.tl (Vs.tl (Vs.tl (Vs.tl (Vs.tl (Vs.tl (Vs.tl hvs))))))))) | exact Vs.hd (Vs.tl (Vs.tl (Vs.tl (Vs.tl (Vs.tl (Vs.tl (Vs.tl (Vs.tl (Vs.tl (Vs.tl hvs)))))))))) | exact Vs.hd (Vs.tl (Vs.tl (Vs.tl (Vs.tl (Vs.tl (Vs.tl (Vs.tl (Vs.tl (Vs.tl (Vs.tl (Vs.tl hvs))))))))))) | exact Vs.hd (Vs.tl (Vs.tl (Vs.tl (Vs.tl (Vs.tl (Vs.tl (Vs.tl (Vs.tl (Vs.tl (Vs.tl (Vs.tl (Vs.tl hvs)))))))))))) | exact Vs.hd (Vs.tl (Vs.tl (Vs.tl (Vs.tl (Vs.tl (Vs.tl (Vs.tl (Vs.tl (Vs.tl (Vs.tl (Vs.tl (Vs.tl (Vs.tl hvs))))))))))))) | exact Vs.hd (Vs.tl (Vs.tl (Vs.tl (Vs.tl (Vs.tl (Vs.tl (Vs.tl (Vs.tl (Vs.tl (Vs.tl (Vs.tl (Vs.tl (Vs.tl (Vs.tl hvs)))))))))))))) | exact Vs.hd (Vs.tl (Vs.tl (Vs.tl (Vs.tl (Vs.tl (Vs.tl (Vs.tl (Vs.tl (Vs.tl (Vs.tl (Vs.tl (Vs.tl (Vs.tl (Vs.tl (Vs.tl hvs))))))))))))))))); (any_goals omega); rintro e w' ⟨_, _, _, _, rfl, hv, hbel⟩; have hbw' := Below.trans hbw (Below.mono hbel (Below.size hbw)); clear hbw; have hbw := hbw'; clear hbw'; have hms' := Ms.below hbel hms; clear hms; have hms := hms'; clear hms'; have hvs' := Vs.cons (Vs.below hbel hvs) hv; clear hvs; have hvs := hvs'; clear hvs' hbel hv)
      | (go_at_call 24; ((with_reducible refine' (Same_v ?_ ?_ HE5.out ?_).mono ?_)); (any_goals (first | exact Vs.hd hvs | exact Vs.hd (Vs.tl hvs) | exact Vs.hd (Vs.tl (Vs.tl hvs)) | exact Vs.hd (Vs.tl (Vs.tl (Vs.tl hvs))) | exact Vs.hd (Vs.tl (Vs.tl (Vs.tl (Vs.tl hvs)))) | exact Vs.hd (Vs.tl (Vs.tl (Vs.tl (Vs.tl (Vs.tl hvs))))) | exact Vs.hd (Vs.tl (Vs.tl (Vs.tl (Vs.tl (Vs.tl (Vs.tl hvs)))))) | exact Vs.hd (Vs.tl (Vs.tl (Vs.tl (Vs.tl (Vs.tl (Vs.tl (Vs.tl hvs))))))) | exact Vs.hd (Vs.tl (Vs.tl (Vs.tl (Vs.tl (Vs.tl (Vs.tl (Vs.tl (Vs.tl hvs)))))))) | exact Vs.hd (Vs.tl (Vs.tl (Vs.tl (Vs.tl (Vs.tl (Vs.tl (Vs.tl (Vs.tl (Vs.tl hvs))))))))) | exact Vs.hd (Vs.tl (Vs.tl (Vs.tl (Vs.tl (Vs.tl (Vs.tl (Vs.tl (Vs.tl (Vs.tl (Vs.tl hvs)))))))))) | exact Vs.hd (Vs.tl (Vs.tl (Vs.tl (Vs.tl (Vs.tl (Vs.tl (Vs.tl (Vs.tl (Vs.tl (Vs.tl (Vs.tl hvs))))))))))) | exact Vs.hd (Vs.tl (Vs.tl (Vs.tl (Vs.tl (Vs.tl (Vs.tl (Vs.tl (Vs.tl (Vs.tl (Vs.tl (Vs.tl (Vs.tl hvs)))))))))))) | exact Vs.hd (Vs.tl (Vs.tl (Vs.tl (Vs.tl (Vs.tl (Vs.tl (Vs.tl (Vs.tl (Vs.tl (Vs.tl (Vs.tl (Vs.tl (Vs.tl hvs))))))))))))) | exact Vs.hd (Vs.tl (Vs.tl (Vs.tl (Vs.tl (Vs.tl (Vs.tl (Vs.tl (Vs.tl (Vs.tl (Vs.tl (Vs.tl (Vs.tl (Vs.tl (Vs.tl hvs)))))))))))))) | exact Vs.hd (Vs.tl (Vs.tl (Vs.tl (Vs.tl (Vs.tl (Vs.tl (Vs.tl (Vs.tl (Vs.tl (Vs.tl (Vs.tl (Vs.tl (Vs.tl (Vs.tl (Vs.tl hvs))))))))))))))))); (any_goals omega); rintro e w' ⟨rfl, hbel⟩; have hbw' := Below.trans hbw (Below.mono hbel (Below.size hbw)); clear hbw; have hbw := hbw'; clear hbw'; have hms' := Ms.below hbel hms; clear hms; have hms := hms'; clear hms'; have hvs' := Vs.below hbel hvs; clear hvs; have hvs := hvs'; clear hvs' hbel)
      | (go_at_call 28; ((with_reducible refine' (Cmp_v2 ?_ ?_ HR0.out).mono ?_)); (any_goals (first | exact Vs.hd hvs | exact Vs.hd (Vs.tl hvs) | exact Vs.hd (Vs.tl (Vs.tl hvs)) | exact Vs.hd (Vs.tl (Vs.tl (Vs.tl hvs))) | exact Vs.hd (Vs.tl (Vs.tl (Vs.tl (Vs.tl hvs)))) | exact Vs.hd (Vs.tl (Vs.tl (Vs.tl (Vs.tl (Vs.tl hvs))))) | exact Vs.hd (Vs.tl (Vs.tl (Vs.tl (Vs.tl (Vs.tl (Vs.tl hvs)))))) | exact Vs.hd (Vs.tl (Vs.tl (Vs.tl (Vs.tl (Vs.tl (Vs.tl (Vs.tl hvs))))))) | exact Vs.hd (Vs.tl (Vs.tl (Vs.tl (Vs.tl (Vs.tl (Vs.tl (Vs.tl (Vs.tl hvs)))))))) | exact Vs.hd (Vs.tl (Vs.tl (Vs.tl (Vs.tl (Vs.tl (Vs.tl (Vs.tl (Vs.tl (Vs.tl hvs))))))))) | exact Vs.hd (Vs.tl (Vs.tl (Vs.tl (Vs.tl (Vs.tl (Vs.tl (Vs.tl (Vs.tl (Vs.tl (Vs.tl hvs)))))))))) | exact Vs.hd (Vs.tl (Vs.tl (Vs.tl (Vs.tl (Vs.tl (Vs.tl (Vs.tl (Vs.tl (Vs.tl (Vs.tl (Vs.tl hvs))))))))))) | exact Vs.hd (Vs.tl (Vs.tl (Vs.tl (Vs.tl (Vs.tl (Vs.tl (Vs.tl (Vs.tl (Vs.tl (Vs.tl (Vs.tl (Vs.tl hvs)))))))))))) | exact Vs.hd (Vs.tl (Vs.tl (Vs.tl (Vs.tl (Vs.tl (Vs.tl (Vs.tl (Vs.tl (Vs.tl (Vs.tl (Vs.tl (Vs.tl (Vs.tl hvs))))))))))))) | exact Vs.hd (Vs.tl (Vs.tl (Vs.tl (Vs.tl (Vs.tl (Vs.tl (Vs.tl (Vs.tl (Vs.tl (Vs.tl (Vs.tl (Vs.tl (Vs.tl (Vs.tl hvs)))))))))))))) | exact Vs.hd (Vs.tl (Vs.tl (Vs.tl (Vs.tl (Vs.tl (Vs.tl (Vs.tl (Vs.tl (Vs.tl (Vs.tl (Vs.tl (Vs.tl (Vs.tl (Vs.tl (Vs.tl hvs))))))))))))))))); rintro e w' ⟨rfl, hbel⟩; have hbw' := Below.trans hbw (Below.mono hbel (Below.size hbw)); clear hbw; have hbw := hbw'; clear hbw'; have hms' := Ms.below hbel hms; clear hms; have hms := hms'; clear hms'; have hvs' := Vs.below hbel hvs; clear hvs; have hvs := hvs'; clear hvs' hbel)
      | (go_at_call 28; ((with_reducible refine' (Cmp_v2 ?_ ?_ HRS.out).mono ?_)); (any_goals (first | exact Vs.hd hvs | exact Vs.hd (Vs.tl hvs) | exact Vs.hd (Vs.tl (Vs.tl hvs)) | exact Vs.hd (Vs.tl (Vs.tl (Vs.tl hvs))) | exact Vs.hd (Vs.tl (Vs.tl (Vs.tl (Vs.tl hvs)))) | exact Vs.hd (Vs.tl (Vs.tl (Vs.tl (Vs.tl (Vs.tl hvs))))) | exact Vs.hd (Vs.tl (Vs.tl (Vs.tl (Vs.tl (Vs.tl (Vs.tl hvs)))))) | exact Vs.hd (Vs.tl (Vs.tl (Vs.tl (Vs.tl (Vs.tl (Vs.tl (Vs.tl hvs))))))) | exact Vs.hd (Vs.tl (Vs.tl (Vs.tl (Vs.tl (Vs.tl (Vs.tl (Vs.tl (Vs.tl hvs)))))))) | exact Vs.hd (Vs.tl (Vs.tl (Vs.tl (Vs.tl (Vs.tl (Vs.tl (Vs.tl (Vs.tl (Vs.tl hvs))))))))) | exact Vs.hd (Vs.tl (Vs.tl (Vs.tl (Vs.tl (Vs.tl (Vs.tl (Vs.tl (Vs.tl (Vs.tl (Vs.tl hvs)))))))))) | exact Vs.hd (Vs.tl (Vs.tl (Vs.tl (Vs.tl (Vs.tl (Vs.tl (Vs.tl (Vs.tl (Vs.tl (Vs.tl (Vs.tl hvs))))))))))) | exact Vs.hd (Vs.tl (Vs.tl (Vs.tl (Vs.tl (Vs.tl (Vs.tl (Vs.tl (Vs.tl (Vs.tl (Vs.tl (Vs.tl (Vs.tl hvs)))))))))))) | exact Vs.hd (Vs.tl (Vs.tl (Vs.tl (Vs.tl (Vs.tl (Vs.tl (Vs.tl (Vs.tl (Vs.tl (Vs.tl (Vs.tl (Vs.tl (Vs.tl hvs))))))))))))) | exact Vs.hd (Vs.tl (Vs.tl (Vs.tl (Vs.tl (Vs.tl (Vs.tl (Vs.tl (Vs.tl (Vs.tl (Vs.tl (Vs.tl (Vs.tl (Vs.tl (Vs.tl hvs)))))))))))))) | exact Vs.hd (Vs.tl (Vs.tl (Vs.tl (Vs.tl (Vs.tl (Vs.tl (Vs.tl (Vs.tl (Vs.tl (Vs.tl (Vs.tl (Vs.tl (Vs.tl (Vs.tl (Vs.tl hvs))))))))))))))))); rintro e w' ⟨rfl, hbel⟩; have hbw' := Below.trans hbw (Below.mono hbel (Below.size hbw)); clear hbw; have hbw := hbw'; clear hbw'; have hms' := Ms.below hbel hms; clear hms; have hms := hms'; clear hms'; have hvs' := Vs.below hbel hvs; clear hvs; have hvs := hvs'; clear hvs' hbel)
      | (go_at_call 28; ((with_reducible refine' (Cmp_v2 ?_ ?_ HS0.out).mono ?_)); (any_goals (first | exact Vs.hd hvs | exact Vs.hd (Vs.tl hvs) | exact Vs.hd (Vs.tl (Vs.tl hvs)) | exact Vs.hd (Vs.tl (Vs.tl (Vs.tl hvs))) | exact Vs.hd (Vs.tl (Vs.tl (Vs.tl (Vs.tl hvs)))) | exact Vs.hd (Vs.tl (Vs.tl (Vs.tl (Vs.tl (Vs.tl hvs))))) | exact Vs.hd (Vs.tl (Vs.tl (Vs.tl (Vs.tl (Vs.tl (Vs.tl hvs)))))) | exact Vs.hd (Vs.tl (Vs.tl (Vs.tl (Vs.tl (Vs.tl (Vs.tl (Vs.tl hvs))))))) | exact Vs.hd (Vs.tl (Vs.tl (Vs.tl (Vs.tl (Vs.tl (Vs.tl (Vs.tl (Vs.tl hvs)))))))) | exact Vs.hd (Vs.tl (Vs.tl (Vs.tl (Vs.tl (Vs.tl (Vs.tl (Vs.tl (Vs.tl (Vs.tl hvs))))))))) | exact Vs.hd (Vs.tl (Vs.tl (Vs.tl (Vs.tl (Vs.tl (Vs.tl (Vs.tl (Vs.tl (Vs.tl (Vs.tl hvs)))))))))) | exact Vs.hd (Vs.tl (Vs.tl (Vs.tl (Vs.tl (Vs.tl (Vs.tl (Vs.tl (Vs.tl (Vs.tl (Vs.tl (Vs.tl hvs))))))))))) | exact Vs.hd (Vs.tl (Vs.tl (Vs.tl (Vs.tl (Vs.tl (Vs.tl (Vs.tl (Vs.tl (Vs.tl (Vs.tl (Vs.tl (Vs.tl hvs)))))))))))) | exact Vs.hd (Vs.tl (Vs.tl (Vs.tl (Vs.tl (Vs.tl (Vs.tl (Vs.tl (Vs.tl (Vs.tl (Vs.tl (Vs.tl (Vs.tl (Vs.tl hvs))))))))))))) | exact Vs.hd (Vs.tl (Vs.tl (Vs.tl (Vs.tl (Vs.tl (Vs.tl (Vs.tl (Vs.tl (Vs.tl (Vs.tl (Vs.tl (Vs.tl (Vs.tl (Vs.tl hvs)))))))))))))) | exact Vs.hd (Vs.tl (Vs.tl (Vs.tl (Vs.tl (Vs.tl (Vs.tl (Vs.tl (Vs.tl (Vs.tl (Vs.tl (Vs.tl (Vs.tl (Vs.tl (Vs.tl (Vs.tl hvs))))))))))))))))); rintro e w' ⟨rfl, hbel⟩; have hbw' := Below.trans hbw (Below.mono hbel (Below.size hbw)); clear hbw; have hbw := hbw'; clear hbw'; have hms' := Ms.below hbel hms; clear hms; have hms := hms'; clear hms'; have hvs' := Vs.below hbel hvs; clear hvs; have hvs := hvs'; clear hvs' hbel)
      | (go_at_call 28; ((with_reducible refine' (Cmp_v2 ?_ ?_ HT0.out).mono ?_)); (any_goals (first | exact Vs.hd hvs | exact Vs.hd (Vs.tl hvs) | exact Vs.hd (Vs.tl (Vs.tl hvs)) | exact Vs.hd (Vs.tl (Vs.tl (Vs.tl hvs))) | exact Vs.hd (Vs.tl (Vs.tl (Vs.tl (Vs.tl hvs)))) | exact Vs.hd (Vs.tl (Vs.tl (Vs.tl (Vs.tl (Vs.tl hvs))))) | exact Vs.hd (Vs.tl (Vs.tl (Vs.tl (Vs.tl (Vs.tl (Vs.tl hvs)))))) | exact Vs.hd (Vs.tl (Vs.tl (Vs.tl (Vs.tl (Vs.tl (Vs.tl (Vs.tl hvs))))))) | exact Vs.hd (Vs.tl (Vs.tl (Vs.tl (Vs.tl (Vs.tl (Vs.tl (Vs.tl (Vs.tl hvs)))))))) | exact Vs.hd (Vs.tl (Vs.tl (Vs.tl (Vs.tl (Vs.tl (Vs.tl (Vs.tl (Vs.tl (Vs.tl hvs))))))))) | exact Vs.hd (Vs.tl (Vs.tl (Vs.tl (Vs.tl (Vs.tl (Vs.tl (Vs.tl (Vs.tl (Vs.tl (Vs.tl hvs)))))))))) | exact Vs.hd (Vs.tl (Vs.tl (Vs.tl (Vs.tl (Vs.tl (Vs.tl (Vs.tl (Vs.tl (Vs.tl (Vs.tl (Vs.tl hvs))))))))))) | exact Vs.hd (Vs.tl (Vs.tl (Vs.tl (Vs.tl (Vs.tl (Vs.tl (Vs.tl (Vs.tl (Vs.tl (Vs.tl (Vs.tl (Vs.tl hvs)))))))))))) | exact Vs.hd (Vs.tl (Vs.tl (Vs.tl (Vs.tl (Vs.tl (Vs.tl (Vs.tl (Vs.tl (Vs.tl (Vs.tl (Vs.tl (Vs.tl (Vs.tl hvs))))))))))))) | exact Vs.hd (Vs.tl (Vs.tl (Vs.tl (Vs.tl (Vs.tl (Vs.tl (Vs.tl (Vs.tl (Vs.tl (Vs.tl (Vs.tl (Vs.tl (Vs.tl (Vs.tl hvs)))))))))))))) | exact Vs.hd (Vs.tl (Vs.tl (Vs.tl (Vs.tl (Vs.tl (Vs.tl (Vs.tl (Vs.tl (Vs.tl (Vs.tl (Vs.tl (Vs.tl (Vs.tl (Vs.tl (Vs.tl hvs))))))))))))))))); rintro e w' ⟨rfl, hbel⟩; have hbw' := Below.trans hbw (Below.mono hbel (Below.size hbw)); clear hbw; have hbw := hbw'; clear hbw'; have hms' := Ms.below hbel hms; clear hms; have hms := hms'; clear hms'; have hvs' := Vs.below hbel hvs; clear hvs; have hvs := hvs'; clear hvs' hbel)
          | (go_at_call 20; ((with_reducible refine (awake_any _).mono ?_)); rintro e w' ⟨rfl, hbel⟩; have hbw' := Below.trans hbw (Below.mono hbel (Below.size hbw)); clear hbw; have hbw := hbw'; clear hbw'; have hms' := Ms.below hbel hms; clear hms; have hms := hms'; clear hms'; have hvs' := Vs.below hbel hvs; clear hvs; have hvs := hvs'; clear hvs' hbel))
        all_goals go_wp2
        all_goals go_ret
        all_goals exact ⟨rfl, hbw⟩
end Go.Proofs.Ytcbdnnboddahkaa.Ws
