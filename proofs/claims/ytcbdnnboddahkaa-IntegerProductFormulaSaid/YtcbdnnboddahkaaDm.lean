/-
  WALKS: division with remainder of integers of words.
-/
import Derived.Test.YtcbdnnboddahkaaDw
import Derived.Test.YtcbdnnboddahkaaMulI
namespace Go.Proofs.Ytcbdnnboddahkaa.Ws
open Go.RowKit
set_option linter.unusedVariables false
set_option maxRecDepth 100000
/-- two arguments and two results in four blocks -/
structure Q4 (g : Nat) (nx : Bool) (X : Option Addr) (l c : Nat) (ny : Bool) (Y : Option Addr) (m d : Nat) (w : World) : Prop where
  x : Cl w g nx X l c
  y : Cl w (g + 1) ny Y m d
  r : Cl w (g + 1 + 1) false none 0 0
  s : Cl w (g + 1 + 1 + 1) false none 0 0
  sz : g + 1 + 1 + 1 < w.heap.size
section
variable {w w' : World} {g : Nat} {nx ny : Bool} {X Y : Option Addr} {l c m d : Nat}
theorem Q4.below (hb : Below w.heap.size w w') (k : Q4 g nx X l c ny Y m d w) : Q4 g nx X l c ny Y m d w' :=
  ⟨k.x.below hb (by have := k.sz; omega), k.y.below hb (by have := k.sz; omega), k.r.below hb (by have := k.sz; omega), k.s.below hb k.sz, Nat.lt_of_lt_of_le k.sz hb.size⟩
end
theorem IntIs.zero (w : World) : IntIs w 0 (.agg #[.bool false, .slice none 0 0]) := ⟨none, 0, rfl, Sl.nil_⟩
theorem IntIs.put {w : World} {z : Int} {v : Value} {p : Addr} {u u' : Value} (h : IntIs w z v) (hp : w.cell? p = some u') (hu : ∀ k n, u' ≠ .int k n) : IntIs (w.setCell p u) z v := by
  obtain ⟨A, c, e, hs⟩ := h
  exact ⟨A, c, e, hs.put hp (fun z => hu _ z)⟩
theorem Q4.stored {w w0 : World} {g : Nat} {nx ny : Bool} {X Y : Option Addr} {l c m d : Nat} {z1 z2 : Int} {b1 b2 : Bool} {A1 A2 : Option Addr} {n1 n2 c1 c2 : Nat} (k : Q4 g nx X l c ny Y m d w) (h1 : IntIs w z1 (.agg #[.bool b1, .slice A1 n1 c1])) (h2 : IntIs w z2 (.agg #[.bool b2, .slice A2 n2 c2])) (hb : Below w0.heap.size w0 w) (hg : w0.heap.size = g) :
    IntIs ((((w.setCell ⟨g + 1 + 1, 0, none⟩ (.bool b1)).setCell ⟨g + 1 + 1, 1, none⟩ (.slice A1 n1 c1)).setCell ⟨g + 1 + 1 + 1, 0, none⟩ (.bool b2)).setCell ⟨g + 1 + 1 + 1, 1, none⟩ (.slice A2 n2 c2)) z1 (.agg #[.bool b1, .slice A1 n1 c1])
    ∧ IntIs ((((w.setCell ⟨g + 1 + 1, 0, none⟩ (.bool b1)).setCell ⟨g + 1 + 1, 1, none⟩ (.slice A1 n1 c1)).setCell ⟨g + 1 + 1 + 1, 0, none⟩ (.bool b2)).setCell ⟨g + 1 + 1 + 1, 1, none⟩ (.slice A2 n2 c2)) z2 (.agg #[.bool b2, .slice A2 n2 c2])
    ∧ Below w0.heap.size w0 ((((w.setCell ⟨g + 1 + 1, 0, none⟩ (.bool b1)).setCell ⟨g + 1 + 1, 1, none⟩ (.slice A1 n1 c1)).setCell ⟨g + 1 + 1 + 1, 0, none⟩ (.bool b2)).setCell ⟨g + 1 + 1 + 1, 1, none⟩ (.slice A2 n2 c2)) := by
  have e1 : (w.setCell ⟨g + 1 + 1, 0, none⟩ (.bool b1)).cell? ⟨g + 1 + 1, 1, none⟩ = some (.slice none 0 0) := by rw [World.cell?_setCell_other _ _ _ _ (by simp)]; exact k.r.c1
  have e2 : ((w.setCell ⟨g + 1 + 1, 0, none⟩ (.bool b1)).setCell ⟨g + 1 + 1, 1, none⟩ (.slice A1 n1 c1)).cell? ⟨g + 1 + 1 + 1, 0, none⟩ = some (.bool false) := by
    rw [World.cell?_setCell_other _ _ _ _ (by simp), World.cell?_setCell_other _ _ _ _ (by simp)]; exact k.s.c0
  have e3 : (((w.setCell ⟨g + 1 + 1, 0, none⟩ (.bool b1)).setCell ⟨g + 1 + 1, 1, none⟩ (.slice A1 n1 c1)).setCell ⟨g + 1 + 1 + 1, 0, none⟩ (.bool b2)).cell? ⟨g + 1 + 1 + 1, 1, none⟩ = some (.slice none 0 0) := by
    rw [World.cell?_setCell_other _ _ _ _ (by simp), World.cell?_setCell_other _ _ _ _ (by simp), World.cell?_setCell_other _ _ _ _ (by simp)]; exact k.s.c1
  have go : ∀ {z : Int} {v : Value}, IntIs w z v → IntIs ((((w.setCell ⟨g + 1 + 1, 0, none⟩ (.bool b1)).setCell ⟨g + 1 + 1, 1, none⟩ (.slice A1 n1 c1)).setCell ⟨g + 1 + 1 + 1, 0, none⟩ (.bool b2)).setCell ⟨g + 1 + 1 + 1, 1, none⟩ (.slice A2 n2 c2)) z v := fun h =>
    (((h.put k.r.c0 (by simp)).put e1 (by simp)).put e2 (by simp)).put e3 (by simp)
  refine ⟨go h1, go h2, ?_⟩
  exact (((hb.setCell (p := ⟨g + 1 + 1, 0, none⟩) (by simp; omega) _).setCell (p := ⟨g + 1 + 1, 1, none⟩) (by simp; omega) _).setCell (p := ⟨g + 1 + 1 + 1, 0, none⟩) (by simp; omega) _).setCell (p := ⟨g + 1 + 1 + 1, 1, none⟩) (by simp; omega) _
/-- the remainder, 0 if there is none -/
def dmR (z t : Int) : Int := if t = 0 then 0 else z % t
def dmE (t : Int) : Int := if t = 0 then 10 else 0
/-- what DivMod hands back -/
def DmOut (z t : Int) (w : World) (e : Ending) (w' : World) : Prop := ∃ u v, e = .returned (.tuple #[u, v, .int .i64 (dmE t)]) ∧ IntIs w' (z / t) u ∧ IntIs w' (dmR z t) v ∧ Below w.heap.size w w'
theorem dm_pos {z t q r : Int} (hr : 0 ≤ r) (hlt : r < t.natAbs) (h : r + t * q = z) : z / t = q ∧ z % t = r := by
  rcases Int.lt_or_lt_of_ne (show t ≠ 0 by intro h0; subst h0; simp at hlt; omega) with ht | ht
  · have := (Int.ediv_emod_unique (a := z) (b := -t) (r := r) (q := -q) (by omega)).2 ⟨by rw [Int.neg_mul_neg]; exact h, hr, by omega⟩
    rw [Int.ediv_neg, Int.emod_neg] at this
    omega
  · exact (Int.ediv_emod_unique (by omega)).2 ⟨h, hr, by omega⟩
/-- nothing to round -/
theorem dm_one (nx ny : Bool) (z t : Int) (a b : Nat) (hz : z = if nx then -(a : Int) else a) (ht : t = if ny then -(b : Int) else b) (hb : b ≠ 0) (hc : nx = false ∨ a % b = 0) :
    iv (!nx == ny) (W (a / b)) = z / t ∧ iv false (W (a % b)) = z % t := by
  have hd := Nat.div_add_mod a b
  have hm := Nat.mod_lt a (show 0 < b by omega)
  have hdi : (b : Int) * (a / b : Nat) + (a % b : Nat) = a := by exact_mod_cast hd
  have hn : t.natAbs = b := by rw [ht]; split <;> omega
  rw [iv_W, iv_W]
  generalize a / b = q at *
  generalize a % b = r at *
  have := dm_pos (z := z) (t := t) (q := if (!nx == ny) then -(q : Int) else q) (r := (r : Int)) (by omega) (by rw [hn]; omega) (by
    rw [hz, ht]
    rcases hc with rfl | rfl <;> cases ny <;> try cases nx
    all_goals simp [Int.neg_mul, Int.mul_neg] at hdi ⊢
    all_goals omega)
  rw [this.1, this.2]
  simp
/-- rounded away from 0 -/
theorem dm_two (ny : Bool) (z t : Int) (a b : Nat) (hz : z = -(a : Int)) (ht : t = if ny then -(b : Int) else b) (hb : b ≠ 0) (hc : a % b ≠ 0) :
    iv (!true == ny) (W (a / b + 1)) = z / t ∧ iv false (W (b - a % b)) = z % t := by
  have hd := Nat.div_add_mod a b
  have hm := Nat.mod_lt a (show 0 < b by omega)
  have hdi : (b : Int) * (a / b : Nat) + (a % b : Nat) = a := by exact_mod_cast hd
  have hn : t.natAbs = b := by rw [ht]; split <;> omega
  rw [iv_W, iv_W]
  generalize a / b = q at *
  generalize a % b = r at *
  have := dm_pos (z := z) (t := t) (q := if (!true == ny) then -((q + 1 : Nat) : Int) else ((q + 1 : Nat) : Int)) (r := ((b - r : Nat) : Int)) (by omega) (by rw [hn]; omega) (by
    rw [hz, ht]
    have e : (b : Int) * ((q + 1 : Nat) : Int) = b * q + b := by push_cast; rw [Int.mul_add, Int.mul_one]
    cases ny
    · show ((b - r : Nat) : Int) + (b : Int) * -((q + 1 : Nat) : Int) = -(a : Int)
      rw [Int.mul_neg, e]; omega
    · show ((b - r : Nat) : Int) + -(b : Int) * ((q + 1 : Nat) : Int) = -(a : Int)
      rw [Int.neg_mul, e]; omega)
  rw [this.1, this.2]
  simp
set_option maxHeartbeats 4000000 in
theorem DivMod_any (nx ny : Bool) (X Y : Option Addr) (c d : Nat) (xs ys : List Nat) (w : World) (hx : IntIn w nx X c xs) (hy : IntIn w ny Y d ys) :
    Calls Try.prog 38 #[.agg #[.bool nx, .slice X xs.length c], .agg #[.bool ny, .slice Y ys.length d]] w fun e w' => DmOut (iv nx xs) (iv ny ys) w e w' := by
  have hB : Below w.heap.size w ((((w.alloc (Obj.cells #[Value.bool nx, Value.slice X xs.length c] 24)).alloc (Obj.cells #[Value.bool ny, Value.slice Y ys.length d] 24)).alloc (Obj.cells #[Value.bool false, Value.slice none 0 0] 24)).alloc (Obj.cells #[Value.bool false, Value.slice none 0 0] 24)) := by go_grown
  have hQ : Q4 w.heap.size nx X xs.length c ny Y ys.length d ((((w.alloc (Obj.cells #[Value.bool nx, Value.slice X xs.length c] 24)).alloc (Obj.cells #[Value.bool ny, Value.slice Y ys.length d] 24)).alloc (Obj.cells #[Value.bool false, Value.slice none 0 0] 24)).alloc (Obj.cells #[Value.bool false, Value.slice none 0 0] 24)) :=
    ⟨⟨by simp [go_sem], by simp [go_sem], by simp [go_sem], by simp [go_sem]⟩, ⟨by simp [go_sem], by simp [go_sem], by simp [go_sem], by simp [go_sem]⟩, ⟨by simp [go_sem], by simp [go_sem], by simp [go_sem], by simp [go_sem]⟩, ⟨by simp [go_sem], by simp [go_sem], by simp [go_sem], by simp [go_sem]⟩, by simp⟩
  have hl1 : (W (iv nx xs).natAbs).length ≤ 4294967280 := by rw [← trimL_W nx hx.lt]; have := trimL_length xs; have := hx.len; omega
  have hl2 : (W (iv ny ys).natAbs).length ≤ 4294967280 := by rw [← trimL_W ny hy.lt]; have := trimL_length ys; have := hy.len; omega
  have HX := Lib.hid hx
  have HY := Lib.hid hy
  have HB := Lib.hid hB
  have HQ := Lib.hid hQ
  have HZX := Lib.hid (iv_eq nx xs)
  have HZY := Lib.hid (iv_eq ny ys)
  clear hx hy hB hQ
  by_cases h0 : iv ny ys = 0
  · have hl0 : (W (iv ny ys).natAbs).length = 0 := by rw [h0]; rfl
    have ht : (((W (iv ny ys).natAbs).length : Int) == 0) = true := by simp [hl0]
    have H0 := Lib.hid h0
    clear h0 hl0
    go_enter Try.func38, Try.ntmps38
    go_wp2_with fail
    generalize ((((w.alloc (Obj.cells #[Value.bool nx, Value.slice X xs.length c] 24)).alloc (Obj.cells #[Value.bool ny, Value.slice Y ys.length d] 24)).alloc (Obj.cells #[Value.bool false, Value.slice none 0 0] 24)).alloc (Obj.cells #[Value.bool false, Value.slice none 0 0] 24)) = W0 at *
    obtain ⟨⟨x0, x1, -, -⟩, ⟨y0, y1, -, -⟩, ⟨r0, r1, r2, r3⟩, ⟨s0, s1, s2, s3⟩, -⟩ := HQ.out
    refine (trim_in (w0 := w) HY.out HB.out).mono ?_
    rintro e w1 ⟨rfl, -, rfl⟩
    go_wp2
    refine bodyPost_ret (v := .tuple #[.agg #[.bool false, .slice none 0 0], .agg #[.bool false, .slice none 0 0], .int .i64 10]) (by simp [results, Try.results38, go_sem, r0, r1, s0, s1]) rfl ?_
    have hs := Q4.stored (z1 := 0) (z2 := 0) HQ.out (IntIs.zero _) (IntIs.zero _) HB.out rfl
    unfold DmOut dmR dmE
    rw [H0.out]
    exact ⟨_, _, rfl, by simpa using hs.1, by simpa using hs.2.1, hs.2.2⟩
  · have hbn : (iv ny ys).natAbs ≠ 0 := by omega
    have ht : (((W (iv ny ys).natAbs).length : Int) == 0) = false := by
      have : (W (iv ny ys).natAbs).length ≠ 0 := fun h => hbn (W_nil.1 (List.eq_nil_of_length_eq_zero h))
      rw [beq_eq_false_iff_ne]; omega
    have HNE := Lib.hid h0
    clear h0
    cases nx
    · have HE := Lib.hid (dm_one false ny (iv false xs) (iv ny ys) _ _ HZX.out HZY.out hbn (.inl rfl))
      go_enter Try.func38, Try.ntmps38
      go_wp2_with fail
      generalize ((((w.alloc (Obj.cells #[Value.bool false, Value.slice X xs.length c] 24)).alloc (Obj.cells #[Value.bool ny, Value.slice Y ys.length d] 24)).alloc (Obj.cells #[Value.bool false, Value.slice none 0 0] 24)).alloc (Obj.cells #[Value.bool false, Value.slice none 0 0] 24)) = W0 at *
      obtain ⟨⟨x0, x1, -, -⟩, ⟨y0, y1, -, -⟩, -, -, -⟩ := HQ.out
      refine (trim_in (w0 := w) HY.out HB.out).mono ?_
      rintro e w1 ⟨rfl, hsy, rfl⟩
      have HSY := Lib.hid hsy
      clear hsy
      go_wp2_with fail
      refine (trim_in (w0 := w) HX.out HB.out).mono ?_
      rintro e w1 ⟨rfl, hsx, rfl⟩
      have HSX := Lib.hid hsx
      clear hsx
      go_wp2_with fail
      refine (divw_any X Y c d _ _ _ HSX.out HSY.out hbn hl1).mono ?_
      rintro e w2 ⟨A1, c1, C1, d1, rfl, hs1, hs2, hb2⟩
      have HS1 := Lib.hid hs1
      have HS2 := Lib.hid hs2
      have HSY2 := Lib.hid (HSY.out.below hb2)
      have HQ2 := Lib.hid (HQ.out.below hb2)
      have HB2 := Lib.hid (HB.out.trans (hb2.mono HB.out.size))
      clear hs1 hs2 hb2 x0 x1 y0 y1 HSX HSY
      obtain ⟨⟨x0, x1, -, -⟩, ⟨y0, y1, -, -⟩, -, -, -⟩ := HQ2.out
      go_wp2_with fail
      refine (signed_any _ _ _ (W ((iv false xs).natAbs / (iv ny ys).natAbs)) _ HS1.out (W_lt _)).mono ?_
      rintro e w6 ⟨v6, rfl, hi6, hb6⟩
      have hi6' : IntIs w6 (iv false xs / iv ny ys) v6 := by rw [← HE.out.1]; first | exact hi6 | (cases ny <;> exact hi6)
      have HI6 := Lib.hid hi6'
      have HQ6 := Lib.hid (HQ2.out.below hb6)
      have HB6 := Lib.hid (HB2.out.trans (hb6.mono HB2.out.size))
      have HS6 := Lib.hid (HS2.out.below hb6)
      clear hi6 hi6' hb6
      go_wp2_with fail
      refine (signed_any false _ _ (W ((iv false xs).natAbs % (iv ny ys).natAbs)) _ HS6.out (W_lt _)).mono ?_
      rintro e w7 ⟨v7, rfl, hi7, hb7⟩
      have hi7' : IntIs w7 (iv false xs % iv ny ys) v7 := by rw [← HE.out.2]; exact hi7
      have HI7 := Lib.hid hi7'
      have HI6b := Lib.hid (HI6.out.below hb7)
      have HQ7 := Lib.hid (HQ6.out.below hb7)
      have HB7 := Lib.hid (HB6.out.trans (hb7.mono HB6.out.size))
      obtain ⟨A8, c8, rfl, -⟩ := hi7'
      obtain ⟨A9, c9, rfl, -⟩ := HI6.out
      clear hi7 hb7 x0 x1 y0 y1 HI6 HS6
      obtain ⟨⟨x0, x1, -, -⟩, ⟨y0, y1, -, -⟩, ⟨r0, r1, r2, r3⟩, ⟨s0, s1, s2, s3⟩, -⟩ := HQ7.out
      go_wp2
      refine bodyPost_ret (v := .tuple #[.agg #[.bool (decide (iv false xs / iv ny ys < 0)), .slice A9 (W (iv false xs / iv ny ys).natAbs).length c9], .agg #[.bool (decide (iv false xs % iv ny ys < 0)), .slice A8 (W (iv false xs % iv ny ys).natAbs).length c8], .int .i64 0]) (by simp [results, Try.results38, go_sem, r0, r1, s0, s1]) rfl ?_
      have hs := Q4.stored HQ7.out HI6b.out HI7.out HB7.out rfl
      have hne := HNE.out
      unfold DmOut dmR dmE
      rw [if_neg hne, if_neg hne]
      exact ⟨_, _, rfl, hs.1, hs.2.1, hs.2.2⟩
    · by_cases hr : (iv true xs).natAbs % (iv ny ys).natAbs = 0
      · have HE := Lib.hid (dm_one true ny (iv true xs) (iv ny ys) _ _ HZX.out HZY.out hbn (.inr hr))
        have hd : decide (0 < (W ((iv true xs).natAbs % (iv ny ys).natAbs)).length) = false := by rw [hr]; rfl
        clear hr
        go_enter Try.func38, Try.ntmps38
        go_wp2_with fail
        generalize ((((w.alloc (Obj.cells #[Value.bool true, Value.slice X xs.length c] 24)).alloc (Obj.cells #[Value.bool ny, Value.slice Y ys.length d] 24)).alloc (Obj.cells #[Value.bool false, Value.slice none 0 0] 24)).alloc (Obj.cells #[Value.bool false, Value.slice none 0 0] 24)) = W0 at *
        obtain ⟨⟨x0, x1, -, -⟩, ⟨y0, y1, -, -⟩, -, -, -⟩ := HQ.out
        refine (trim_in (w0 := w) HY.out HB.out).mono ?_
        rintro e w1 ⟨rfl, hsy, rfl⟩
        have HSY := Lib.hid hsy
        clear hsy
        go_wp2_with fail
        refine (trim_in (w0 := w) HX.out HB.out).mono ?_
        rintro e w1 ⟨rfl, hsx, rfl⟩
        have HSX := Lib.hid hsx
        clear hsx
        go_wp2_with fail
        refine (divw_any X Y c d _ _ _ HSX.out HSY.out hbn hl1).mono ?_
        rintro e w2 ⟨A1, c1, C1, d1, rfl, hs1, hs2, hb2⟩
        have HS1 := Lib.hid hs1
        have HS2 := Lib.hid hs2
        have HSY2 := Lib.hid (HSY.out.below hb2)
        have HQ2 := Lib.hid (HQ.out.below hb2)
        have HB2 := Lib.hid (HB.out.trans (hb2.mono HB.out.size))
        clear hs1 hs2 hb2 x0 x1 y0 y1 HSX HSY
        obtain ⟨⟨x0, x1, -, -⟩, ⟨y0, y1, -, -⟩, -, -, -⟩ := HQ2.out
        go_wp2_with fail
        refine (signed_any _ _ _ (W ((iv true xs).natAbs / (iv ny ys).natAbs)) _ HS1.out (W_lt _)).mono ?_
        rintro e w6 ⟨v6, rfl, hi6, hb6⟩
        have hi6' : IntIs w6 (iv true xs / iv ny ys) v6 := by rw [← HE.out.1]; first | exact hi6 | (cases ny <;> exact hi6)
        have HI6 := Lib.hid hi6'
        have HQ6 := Lib.hid (HQ2.out.below hb6)
        have HB6 := Lib.hid (HB2.out.trans (hb6.mono HB2.out.size))
        have HS6 := Lib.hid (HS2.out.below hb6)
        clear hi6 hi6' hb6
        go_wp2_with fail
        refine (signed_any false _ _ (W ((iv true xs).natAbs % (iv ny ys).natAbs)) _ HS6.out (W_lt _)).mono ?_
        rintro e w7 ⟨v7, rfl, hi7, hb7⟩
        have hi7' : IntIs w7 (iv true xs % iv ny ys) v7 := by rw [← HE.out.2]; exact hi7
        have HI7 := Lib.hid hi7'
        have HI6b := Lib.hid (HI6.out.below hb7)
        have HQ7 := Lib.hid (HQ6.out.below hb7)
        have HB7 := Lib.hid (HB6.out.trans (hb7.mono HB6.out.size))
        obtain ⟨A8, c8, rfl, -⟩ := hi7'
        obtain ⟨A9, c9, rfl, -⟩ := HI6.out
        clear hi7 hb7 x0 x1 y0 y1 HI6 HS6
        obtain ⟨⟨x0, x1, -, -⟩, ⟨y0, y1, -, -⟩, ⟨r0, r1, r2, r3⟩, ⟨s0, s1, s2, s3⟩, -⟩ := HQ7.out
        go_wp2
        refine bodyPost_ret (v := .tuple #[.agg #[.bool (decide (iv true xs / iv ny ys < 0)), .slice A9 (W (iv true xs / iv ny ys).natAbs).length c9], .agg #[.bool (decide (iv true xs % iv ny ys < 0)), .slice A8 (W (iv true xs % iv ny ys).natAbs).length c8], .int .i64 0]) (by simp [results, Try.results38, go_sem, r0, r1, s0, s1]) rfl ?_
        have hs := Q4.stored HQ7.out HI6b.out HI7.out HB7.out rfl
        have hne := HNE.out
        unfold DmOut dmR dmE
        rw [if_neg hne, if_neg hne]
        exact ⟨_, _, rfl, hs.1, hs.2.1, hs.2.2⟩
      · have HE := Lib.hid (dm_two ny (iv true xs) (iv ny ys) _ _ HZX.out HZY.out hbn hr)
        have hd : decide (0 < (W ((iv true xs).natAbs % (iv ny ys).natAbs)).length) = true := by
          have : (W ((iv true xs).natAbs % (iv ny ys).natAbs)).length ≠ 0 := fun h => hr (W_nil.1 (List.eq_nil_of_length_eq_zero h))
          rw [decide_eq_true_iff]; omega
        clear hr
        go_enter Try.func38, Try.ntmps38
        go_wp2_with fail
        generalize ((((w.alloc (Obj.cells #[Value.bool true, Value.slice X xs.length c] 24)).alloc (Obj.cells #[Value.bool ny, Value.slice Y ys.length d] 24)).alloc (Obj.cells #[Value.bool false, Value.slice none 0 0] 24)).alloc (Obj.cells #[Value.bool false, Value.slice none 0 0] 24)) = W0 at *
        obtain ⟨⟨x0, x1, -, -⟩, ⟨y0, y1, -, -⟩, -, -, -⟩ := HQ.out
        refine (trim_in (w0 := w) HY.out HB.out).mono ?_
        rintro e w1 ⟨rfl, hsy, rfl⟩
        have HSY := Lib.hid hsy
        clear hsy
        go_wp2_with fail
        refine (trim_in (w0 := w) HX.out HB.out).mono ?_
        rintro e w1 ⟨rfl, hsx, rfl⟩
        have HSX := Lib.hid hsx
        clear hsx
        go_wp2_with fail
        refine (divw_any X Y c d _ _ _ HSX.out HSY.out hbn hl1).mono ?_
        rintro e w2 ⟨A1, c1, C1, d1, rfl, hs1, hs2, hb2⟩
        have HS1 := Lib.hid hs1
        have HS2 := Lib.hid hs2
        have HSY2 := Lib.hid (HSY.out.below hb2)
        have HQ2 := Lib.hid (HQ.out.below hb2)
        have HB2 := Lib.hid (HB.out.trans (hb2.mono HB.out.size))
        clear hs1 hs2 hb2 x0 x1 y0 y1 HSX HSY
        obtain ⟨⟨x0, x1, -, -⟩, ⟨y0, y1, -, -⟩, -, -, -⟩ := HQ2.out
        have hnew : Sl (w2.alloc (Obj.cells #[Value.int IntKind.u32 1] 113)) .u32 (some ⟨w2.heap.size, 0, none⟩) 1 [1] := (Ar.new w2 .u32 113 [1]).sl (by simp)
        have hbw := (Below.refl w2.heap.size w2).alloc (Nat.le_refl _) (Obj.cells #[Value.int IntKind.u32 1] 113)
        have HNEW := Lib.hid hnew
        have HS1n := Lib.hid (HS1.out.below hbw)
        have HS2n := Lib.hid (HS2.out.below hbw)
        have HSYn := Lib.hid (HSY2.out.below hbw)
        have HQn := Lib.hid (HQ2.out.below hbw)
        have HBn := Lib.hid (HB2.out.trans (hbw.mono HB2.out.size))
        have hql : (W ((iv true xs).natAbs / (iv ny ys).natAbs)).length ≤ 4294967296 := by have := W_len_mono (Nat.div_le_self (iv true xs).natAbs (iv ny ys).natAbs); omega
        clear hnew hbw HQ HB HQ2 HB2 HSY2 HS1 HS2
        go_wp2_with fail
        refine (add_any A1 _ c1 1 (W ((iv true xs).natAbs / (iv ny ys).natAbs)) [1] _ HS1n.out HNEW.out (W_lt _) (by simp) hql (by simp)).mono ?_
        rw [val_W, show val 4294967296 [1] = 1 from rfl]
        rintro e w3 ⟨A3, c3, rfl, hs3, hb3⟩
        have HS3 := Lib.hid hs3
        have HS2o := Lib.hid (HS2n.out.below hb3)
        have HSYo := Lib.hid (HSYn.out.below hb3)
        have HQo := Lib.hid (HQn.out.below hb3)
        have HBo := Lib.hid (HBn.out.trans (hb3.mono HBn.out.size))
        clear hs3 hb3 HS1n HS2n HSYn HQn HBn HNEW
        go_wp2_with fail
        refine (subW HSYo.out HS2o.out (by omega) (Nat.le_of_lt (Nat.mod_lt _ (by omega)))).mono ?_
        rintro e w4 ⟨A4, c4, rfl, hs4, hb4⟩
        have HS4 := Lib.hid hs4
        have HS3o := Lib.hid (HS3.out.below hb4)
        have HQ2 := Lib.hid (HQo.out.below hb4)
        have HB2 := Lib.hid (HBo.out.trans (hb4.mono HBo.out.size))
        clear hs4 hb4 HQo HBo HSYo HS2o HS3 x0 x1 y0 y1
        obtain ⟨⟨x0, x1, -, -⟩, ⟨y0, y1, -, -⟩, -, -, -⟩ := HQ2.out
        go_wp2_with fail
        refine (signed_any _ _ _ (W ((iv true xs).natAbs / (iv ny ys).natAbs + 1)) _ HS3o.out (W_lt _)).mono ?_
        rintro e w6 ⟨v6, rfl, hi6, hb6⟩
        have hi6' : IntIs w6 (iv true xs / iv ny ys) v6 := by rw [← HE.out.1]; first | exact hi6 | (cases ny <;> exact hi6)
        have HI6 := Lib.hid hi6'
        have HQ6 := Lib.hid (HQ2.out.below hb6)
        have HB6 := Lib.hid (HB2.out.trans (hb6.mono HB2.out.size))
        have HS6 := Lib.hid (HS4.out.below hb6)
        clear hi6 hi6' hb6
        go_wp2_with fail
        refine (signed_any false _ _ (W ((iv ny ys).natAbs - (iv true xs).natAbs % (iv ny ys).natAbs)) _ HS6.out (W_lt _)).mono ?_
        rintro e w7 ⟨v7, rfl, hi7, hb7⟩
        have hi7' : IntIs w7 (iv true xs % iv ny ys) v7 := by rw [← HE.out.2]; exact hi7
        have HI7 := Lib.hid hi7'
        have HI6b := Lib.hid (HI6.out.below hb7)
        have HQ7 := Lib.hid (HQ6.out.below hb7)
        have HB7 := Lib.hid (HB6.out.trans (hb7.mono HB6.out.size))
        obtain ⟨A8, c8, rfl, -⟩ := hi7'
        obtain ⟨A9, c9, rfl, -⟩ := HI6.out
        clear hi7 hb7 x0 x1 y0 y1 HI6 HS6
        obtain ⟨⟨x0, x1, -, -⟩, ⟨y0, y1, -, -⟩, ⟨r0, r1, r2, r3⟩, ⟨s0, s1, s2, s3⟩, -⟩ := HQ7.out
        go_wp2
        refine bodyPost_ret (v := .tuple #[.agg #[.bool (decide (iv true xs / iv ny ys < 0)), .slice A9 (W (iv true xs / iv ny ys).natAbs).length c9], .agg #[.bool (decide (iv true xs % iv ny ys < 0)), .slice A8 (W (iv true xs % iv ny ys).natAbs).length c8], .int .i64 0]) (by simp [results, Try.results38, go_sem, r0, r1, s0, s1]) rfl ?_
        have hs := Q4.stored HQ7.out HI6b.out HI7.out HB7.out rfl
        have hne := HNE.out
        unfold DmOut dmR dmE
        rw [if_neg hne, if_neg hne]
        exact ⟨_, _, rfl, hs.1, hs.2.1, hs.2.2⟩
end Go.Proofs.Ytcbdnnboddahkaa.Ws
