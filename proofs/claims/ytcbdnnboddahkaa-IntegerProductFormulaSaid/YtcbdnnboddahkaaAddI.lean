/-
  WALKS: integers of words added, subtracted, multiplied.
-/
import Derived.Test.YtcbdnnboddahkaaCmp
namespace Go.Proofs.Ytcbdnnboddahkaa.Ws
open Go.RowKit
set_option linter.unusedVariables false
set_option maxRecDepth 100000
theorem iv_W (neg : Bool) (n : Nat) : iv neg (W n) = if neg then -(n : Int) else n := by cases neg <;> simp [iv, val_W]
theorem iv_eq (neg : Bool) (xs : List Nat) : iv neg xs = if neg then -((iv neg xs).natAbs : Int) else ((iv neg xs).natAbs : Int) := by
  rw [iv_natAbs]; rfl
theorem addW {X Y : Option Addr} {c d a b : Nat} {w : World} (hx : Sl w .u32 X c (W a)) (hy : Sl w .u32 Y d (W b)) (h1 : (W a).length ≤ 4294967296) (h2 : (W b).length ≤ 4294967296) :
    Calls Try.prog 97 #[.slice X (W a).length c, .slice Y (W b).length d] w fun e w' => SlOut w .u32 (W (a + b)) e w' := by
  have h := add_any X Y c d (W a) (W b) w hx hy (W_lt _) (W_lt _) h1 h2
  rw [val_W, val_W] at h; exact h
theorem W_len_mono {a b : Nat} (h : a ≤ b) : (W a).length ≤ (W b).length := dgs_len_mono _ (by decide) a b h
theorem subW {X Y : Option Addr} {c d a b : Nat} {w : World} (hx : Sl w .u32 X c (W a)) (hy : Sl w .u32 Y d (W b)) (h1 : (W a).length ≤ 4294967296) (hle : b ≤ a) :
    Calls Try.prog 98 #[.slice X (W a).length c, .slice Y (W b).length d] w fun e w' => SlOut w .u32 (W (a - b)) e w' := by
  have h := sub_any X Y c d (W a) (W b) w hx hy (W_lt _) (W_lt _) (W_len_mono hle) h1 (by rw [val_W, val_W]; exact hle)
  rw [val_W, val_W] at h; exact h
theorem mulW {X Y : Option Addr} {c d a b : Nat} {w : World} (hx : Sl w .u32 X c (W a)) (hy : Sl w .u32 Y d (W b)) (h1 : (W a).length ≤ 4294967296) (h2 : (W b).length ≤ 4294967296) :
    Calls Try.prog 103 #[.slice X (W a).length c, .slice Y (W b).length d] w fun e w' => SlOut w .u32 (W (a * b)) e w' := by
  have h := mul_any X Y c d (W a) (W b) w hx hy (W_lt _) (W_lt _) h1 h2
  rw [val_W, val_W] at h; exact h
/-- what stays while a result is made of two boxed arguments -/
structure N2 (W0 : World) (g : Nat) (nx : Bool) (X : Option Addr) (l c : Nat) (ny : Bool) (Y : Option Addr) (m d : Nat) (w : World) : Prop where
  x : Cl w g nx X l c
  y : Cl w (g + 1) ny Y m d
  r : ∃ b A' n' c', Cl w (g + 1 + 1) b A' n' c'
  lr : g + 1 + 1 < W0.heap.size
  sz : W0.heap.size ≤ w.heap.size
  bel : Below (g + 1 + 1) W0 w
section
variable {W0 w w' : World} {g : Nat} {nx ny : Bool} {X Y : Option Addr} {l c m d : Nat}
theorem N2.mk' (h1 : Cl W0 g nx X l c) (h2 : Cl W0 (g + 1) ny Y m d) (h3 : Cl W0 (g + 1 + 1) false none 0 0) (h4 : g + 1 + 1 < W0.heap.size) : N2 W0 g nx X l c ny Y m d W0 :=
  ⟨h1, h2, ⟨_, _, _, _, h3⟩, h4, Nat.le_refl _, Below.refl _ _⟩
theorem N2.below (hb : Below w.heap.size w w') (h : N2 W0 g nx X l c ny Y m d w) : N2 W0 g nx X l c ny Y m d w' := by
  have := h.lr; have := h.sz
  obtain ⟨b, A', n', c', hr⟩ := h.r
  exact ⟨h.x.below hb (by omega), h.y.below hb (by omega), ⟨b, A', n', c', hr.below hb (by omega)⟩, h.lr, Nat.le_trans h.sz hb.size, h.bel.trans (hb.mono (by omega))⟩
theorem N2.draws (n : Nat) (h : N2 W0 g nx X l c ny Y m d w) : N2 W0 g nx X l c ny Y m d (w.drewN n) := h.below (below_drawn (Below.refl _ _) n)
theorem N2.stored (b : Bool) (A' : Option Addr) (n' c' : Nat) (h : N2 W0 g nx X l c ny Y m d w) : N2 W0 g nx X l c ny Y m d ((w.setCell ⟨g + 1 + 1, 0, none⟩ (.bool b)).setCell ⟨g + 1 + 1, 1, none⟩ (.slice A' n' c')) := by
  obtain ⟨b0, A0, n0, c0, hr⟩ := h.r
  exact ⟨(h.x.other (p := ⟨g + 1 + 1, 0, none⟩) (by simp <;> omega) _).other (p := ⟨g + 1 + 1, 1, none⟩) (by simp <;> omega) _, (h.y.other (p := ⟨g + 1 + 1, 0, none⟩) (by simp) _).other (p := ⟨g + 1 + 1, 1, none⟩) (by simp) _, ⟨_, _, _, _, hr.self⟩, h.lr, by simpa using h.sz, (h.bel.setCell (p := ⟨g + 1 + 1, 0, none⟩) (Nat.le_refl _) _).setCell (p := ⟨g + 1 + 1, 1, none⟩) (Nat.le_refl _) _⟩
theorem N2.ks (h : N2 W0 g nx X l c ny Y m d w) : (w.cell? ⟨g, 0, none⟩ = some (.bool nx) ∧ w.cell? ⟨g, 1, none⟩ = some (.slice X l c) ∧ w.cell? ⟨g + 1, 0, none⟩ = some (.bool ny) ∧ w.cell? ⟨g + 1, 1, none⟩ = some (.slice Y m d)) ∧ N2 W0 g nx X l c ny Y m d w :=
  ⟨⟨h.x.c0, h.x.c1, h.y.c0, h.y.c1⟩, h⟩
end
set_option maxHeartbeats 4000000 in
theorem Add_any (nx ny : Bool) (X Y : Option Addr) (c d : Nat) (xs ys : List Nat) (w : World) (hx : IntIn w nx X c xs) (hy : IntIn w ny Y d ys) :
    Calls Try.prog 30 #[.agg #[.bool nx, .slice X xs.length c], .agg #[.bool ny, .slice Y ys.length d]] w fun e w' => IntOut w (iv nx xs + iv ny ys) e w' := by
  have hB : Below w.heap.size w (((w.alloc (Obj.cells #[Value.bool nx, Value.slice X xs.length c] 24)).alloc (Obj.cells #[Value.bool ny, Value.slice Y ys.length d] 24)).alloc (Obj.cells #[Value.bool false, Value.slice none 0 0] 24)) := by go_grown
  have hC : Cl (((w.alloc (Obj.cells #[Value.bool nx, Value.slice X xs.length c] 24)).alloc (Obj.cells #[Value.bool ny, Value.slice Y ys.length d] 24)).alloc (Obj.cells #[Value.bool false, Value.slice none 0 0] 24)) w.heap.size nx X xs.length c :=
    ⟨by simp [go_sem], by simp [go_sem], by simp [go_sem], by simp [go_sem]⟩
  have hD : Cl (((w.alloc (Obj.cells #[Value.bool nx, Value.slice X xs.length c] 24)).alloc (Obj.cells #[Value.bool ny, Value.slice Y ys.length d] 24)).alloc (Obj.cells #[Value.bool false, Value.slice none 0 0] 24)) (w.heap.size + 1) ny Y ys.length d :=
    ⟨by simp [go_sem], by simp [go_sem], by simp [go_sem], by simp [go_sem]⟩
  have hR : Cl (((w.alloc (Obj.cells #[Value.bool nx, Value.slice X xs.length c] 24)).alloc (Obj.cells #[Value.bool ny, Value.slice Y ys.length d] 24)).alloc (Obj.cells #[Value.bool false, Value.slice none 0 0] 24)) (w.heap.size + 1 + 1) false none 0 0 :=
    ⟨by simp [go_sem], by simp [go_sem], by simp [go_sem], by simp [go_sem]⟩
  have hz : (((w.alloc (Obj.cells #[Value.bool nx, Value.slice X xs.length c] 24)).alloc (Obj.cells #[Value.bool ny, Value.slice Y ys.length d] 24)).alloc (Obj.cells #[Value.bool false, Value.slice none 0 0] 24)).heap.size = w.heap.size + 3 := by simp
  have hl1 : (W (iv nx xs).natAbs).length ≤ 4294967296 := by rw [← trimL_W nx hx.lt]; have := trimL_length xs; have := hx.len; omega
  have hl2 : (W (iv ny ys).natAbs).length ≤ 4294967296 := by rw [← trimL_W ny hy.lt]; have := trimL_length ys; have := hy.len; omega
  have HX := Lib.hid hx
  have HY := Lib.hid hy
  have HB := Lib.hid hB
  have HC := Lib.hid hC
  have HD := Lib.hid hD
  have HR := Lib.hid hR
  have HZ := Lib.hid hz
  by_cases hnn : nx = ny
  · have hbb : (nx == ny) = true := by simp [hnn]
    have he : iv nx (W ((iv nx xs).natAbs + (iv ny ys).natAbs)) = iv nx xs + iv ny ys := by
      rw [iv_W]; have e1 := iv_eq nx xs; have e2 := iv_eq ny ys; subst hnn; cases nx <;> simp at e1 e2 ⊢ <;> omega
    have HE := Lib.hid he
    clear hnn he hx hy hB hC hD hR hz
    go_enter Try.func30, Try.ntmps30
    go_wp2_with fail
    generalize (((w.alloc (Obj.cells #[Value.bool nx, Value.slice X xs.length c] 24)).alloc (Obj.cells #[Value.bool ny, Value.slice Y ys.length d] 24)).alloc (Obj.cells #[Value.bool false, Value.slice none 0 0] 24)) = W0 at *
    have hk0 : N2 W0 w.heap.size nx X xs.length c ny Y ys.length d W0 := N2.mk' HC.out HD.out HR.out (by have := HZ.out; omega)
    go_region_held3 (fun w' => (w'.cell? ⟨w.heap.size, 0, none⟩ = some (.bool nx) ∧ w'.cell? ⟨w.heap.size, 1, none⟩ = some (.slice X xs.length c) ∧ w'.cell? ⟨w.heap.size + 1, 0, none⟩ = some (.bool ny) ∧ w'.cell? ⟨w.heap.size + 1, 1, none⟩ = some (.slice Y ys.length d)) ∧ N2 W0 w.heap.size nx X xs.length c ny Y ys.length d w') (first | exact N2.ks (by assumption) | exact N2.ks (N2.draws 1 (by assumption)) | exact N2.ks (N2.stored _ _ _ _ (by assumption)))
      (first
        | (go_at_call 88; ((with_reducible refine (trim_in (w0 := w) HX.out ?_).mono ?_)); (exact (HB.out.trans ((N2.bel (And.right (by assumption))).mono (by omega)))); rintro e w' ⟨rfl, -, rfl⟩)
        | (go_at_call 88; ((with_reducible refine (trim_in (w0 := w) HY.out ?_).mono ?_)); (exact (HB.out.trans ((N2.bel (And.right (by assumption))).mono (by omega)))); rintro e w' ⟨rfl, -, rfl⟩)
)
    obtain ⟨⟨p1, p2, p3, p4⟩, hk1⟩ := (by assumption : (_ ∧ _ ∧ _ ∧ _) ∧ N2 W0 w.heap.size nx X xs.length c ny Y ys.length d _)
    go_wp2_with fail
    go_region_held3 (fun w' => (w'.cell? ⟨w.heap.size, 0, none⟩ = some (.bool nx) ∧ w'.cell? ⟨w.heap.size, 1, none⟩ = some (.slice X xs.length c) ∧ w'.cell? ⟨w.heap.size + 1, 0, none⟩ = some (.bool ny) ∧ w'.cell? ⟨w.heap.size + 1, 1, none⟩ = some (.slice Y ys.length d)) ∧ N2 W0 w.heap.size nx X xs.length c ny Y ys.length d w') (first | exact N2.ks (by assumption) | exact N2.ks (N2.draws 1 (by assumption)) | exact N2.ks (N2.stored _ _ _ _ (by assumption)))
      (first
        | (go_at_call 97; ((with_reducible refine (addW ?_ ?_ hl1 hl2).mono ?_)); (exact HX.out.dg (HB.out.trans ((N2.bel (And.right (by assumption))).mono (by omega)))); (exact HY.out.dg (HB.out.trans ((N2.bel (And.right (by assumption))).mono (by omega)))); rintro e w' ⟨A1, c1, rfl, hs1, hbel⟩; have hk' := N2.below hbel (And.right (by assumption)); clear hbel)
        | (go_at_call 90; ((with_reducible refine (signed_any _ _ _ (W ((iv nx xs).natAbs + (iv ny ys).natAbs)) _ ?_ (W_lt _)).mono ?_)); assumption; rintro e w' ⟨v, rfl, hi1, hbel⟩; have hk' := N2.below hbel (And.right (by assumption)); have hi2 := Lib.hid hi1; obtain ⟨A2, c2, rfl, -⟩ := hi1; obtain ⟨b0, A0, n0, c0, hcl⟩ := hk'.r; obtain ⟨q1, q2, q3, q4⟩ := hcl; clear hbel))
    go_wp2
    rw [← HE.out]
    refine bodyPost_ret (v := .agg #[.bool (decide (iv nx (W ((iv nx xs).natAbs + (iv ny ys).natAbs)) < 0)), .slice A2 (W (iv nx (W ((iv nx xs).natAbs + (iv ny ys).natAbs))).natAbs).length c2]) (by simp [results, Try.results30, go_sem, q1, q2]) rfl ?_
    exact Cl.stored ⟨q1, q2, q3, q4⟩ hi2.out (HB.out.trans (hk'.bel.mono (by omega))) (by omega)
  · have hbb : (nx == ny) = false := by simp [hnn]
    by_cases hle : (iv ny ys).natAbs ≤ (iv nx xs).natAbs
    · have hge : 0 ≤ cmpI ((iv nx xs).natAbs : Int) (iv ny ys).natAbs := by unfold cmpI; rw [if_neg (by omega)]; split <;> omega
      have he : iv nx (W ((iv nx xs).natAbs - (iv ny ys).natAbs)) = iv nx xs + iv ny ys := by
        rw [iv_W]; have e1 := iv_eq nx xs; have e2 := iv_eq ny ys; cases nx <;> cases ny <;> simp at hnn e1 e2 ⊢ <;> omega
      have HE := Lib.hid he
      clear hnn he hx hy hB hC hD hR hz
      go_enter Try.func30, Try.ntmps30
      go_wp2_with fail
      generalize (((w.alloc (Obj.cells #[Value.bool nx, Value.slice X xs.length c] 24)).alloc (Obj.cells #[Value.bool ny, Value.slice Y ys.length d] 24)).alloc (Obj.cells #[Value.bool false, Value.slice none 0 0] 24)) = W0 at *
      have hk0 : N2 W0 w.heap.size nx X xs.length c ny Y ys.length d W0 := N2.mk' HC.out HD.out HR.out (by have := HZ.out; omega)
      go_region_held3 (fun w' => (w'.cell? ⟨w.heap.size, 0, none⟩ = some (.bool nx) ∧ w'.cell? ⟨w.heap.size, 1, none⟩ = some (.slice X xs.length c) ∧ w'.cell? ⟨w.heap.size + 1, 0, none⟩ = some (.bool ny) ∧ w'.cell? ⟨w.heap.size + 1, 1, none⟩ = some (.slice Y ys.length d)) ∧ N2 W0 w.heap.size nx X xs.length c ny Y ys.length d w') (first | exact N2.ks (by assumption) | exact N2.ks (N2.draws 1 (by assumption)) | exact N2.ks (N2.stored _ _ _ _ (by assumption)))
        (first
          | (go_at_call 88; ((with_reducible refine (trim_in (w0 := w) HX.out ?_).mono ?_)); (exact (HB.out.trans ((N2.bel (And.right (by assumption))).mono (by omega)))); rintro e w' ⟨rfl, -, rfl⟩)
          | (go_at_call 88; ((with_reducible refine (trim_in (w0 := w) HY.out ?_).mono ?_)); (exact (HB.out.trans ((N2.bel (And.right (by assumption))).mono (by omega)))); rintro e w' ⟨rfl, -, rfl⟩)
)
      obtain ⟨⟨p1, p2, p3, p4⟩, hk1⟩ := (by assumption : (_ ∧ _ ∧ _ ∧ _) ∧ N2 W0 w.heap.size nx X xs.length c ny Y ys.length d _)
      have hd1 := HX.out.dg (HB.out.trans (hk1.bel.mono (by omega)))
      have hd2 := HY.out.dg (HB.out.trans (hk1.bel.mono (by omega)))
      have HD1 := Lib.hid hd1
      have HD2 := Lib.hid hd2
      have HK1 := Lib.hid hk1
      clear hd1 hd2 hk1
      go_wp2_with fail
      refine (cmpw_any X Y c d _ _ _ HD1.out HD2.out).mono ?_
      rintro e w2 ⟨rfl, hdr⟩
      have hk2 := HK1.out.below hdr.below
      clear hdr p1 p2 p3 p4
      go_wp2_with fail
      go_region_held3 (fun w' => (w'.cell? ⟨w.heap.size, 0, none⟩ = some (.bool nx) ∧ w'.cell? ⟨w.heap.size, 1, none⟩ = some (.slice X xs.length c) ∧ w'.cell? ⟨w.heap.size + 1, 0, none⟩ = some (.bool ny) ∧ w'.cell? ⟨w.heap.size + 1, 1, none⟩ = some (.slice Y ys.length d)) ∧ N2 W0 w.heap.size nx X xs.length c ny Y ys.length d w') (first | exact N2.ks (by assumption) | exact N2.ks (N2.draws 1 (by assumption)) | exact N2.ks (N2.stored _ _ _ _ (by assumption)))
        (first
          | (go_at_call 98; ((with_reducible refine (subW ?_ ?_ hl1 hle).mono ?_)); (exact HX.out.dg (HB.out.trans ((N2.bel (And.right (by assumption))).mono (by omega)))); (exact HY.out.dg (HB.out.trans ((N2.bel (And.right (by assumption))).mono (by omega)))); rintro e w' ⟨A1, c1, rfl, hs1, hbel⟩; have hk' := N2.below hbel (And.right (by assumption)); clear hbel)
          | (go_at_call 90; ((with_reducible refine (signed_any _ _ _ (W ((iv nx xs).natAbs - (iv ny ys).natAbs)) _ ?_ (W_lt _)).mono ?_)); assumption; rintro e w' ⟨v, rfl, hi1, hbel⟩; have hk' := N2.below hbel (And.right (by assumption)); have hi2 := Lib.hid hi1; obtain ⟨A2, c2, rfl, -⟩ := hi1; obtain ⟨b0, A0, n0, c0, hcl⟩ := hk'.r; obtain ⟨q1, q2, q3, q4⟩ := hcl; clear hbel))
      go_wp2
      rw [← HE.out]
      refine bodyPost_ret (v := .agg #[.bool (decide (iv nx (W ((iv nx xs).natAbs - (iv ny ys).natAbs)) < 0)), .slice A2 (W (iv nx (W ((iv nx xs).natAbs - (iv ny ys).natAbs))).natAbs).length c2]) (by simp [results, Try.results30, go_sem, q1, q2]) rfl ?_
      exact Cl.stored ⟨q1, q2, q3, q4⟩ hi2.out (HB.out.trans (hk'.bel.mono (by omega))) (by omega)
    · have hge : ¬ 0 ≤ cmpI ((iv nx xs).natAbs : Int) (iv ny ys).natAbs := by unfold cmpI; rw [if_pos (by omega)]; omega
      have he : iv ny (W ((iv ny ys).natAbs - (iv nx xs).natAbs)) = iv nx xs + iv ny ys := by
        rw [iv_W]; have e1 := iv_eq nx xs; have e2 := iv_eq ny ys; cases nx <;> cases ny <;> simp at hnn e1 e2 ⊢ <;> omega
      have HE := Lib.hid he
      have hle2 : (iv nx xs).natAbs ≤ (iv ny ys).natAbs := by omega
      clear hnn he hx hy hB hC hD hR hz hle
      go_enter Try.func30, Try.ntmps30
      go_wp2_with fail
      generalize (((w.alloc (Obj.cells #[Value.bool nx, Value.slice X xs.length c] 24)).alloc (Obj.cells #[Value.bool ny, Value.slice Y ys.length d] 24)).alloc (Obj.cells #[Value.bool false, Value.slice none 0 0] 24)) = W0 at *
      have hk0 : N2 W0 w.heap.size nx X xs.length c ny Y ys.length d W0 := N2.mk' HC.out HD.out HR.out (by have := HZ.out; omega)
      go_region_held3 (fun w' => (w'.cell? ⟨w.heap.size, 0, none⟩ = some (.bool nx) ∧ w'.cell? ⟨w.heap.size, 1, none⟩ = some (.slice X xs.length c) ∧ w'.cell? ⟨w.heap.size + 1, 0, none⟩ = some (.bool ny) ∧ w'.cell? ⟨w.heap.size + 1, 1, none⟩ = some (.slice Y ys.length d)) ∧ N2 W0 w.heap.size nx X xs.length c ny Y ys.length d w') (first | exact N2.ks (by assumption) | exact N2.ks (N2.draws 1 (by assumption)) | exact N2.ks (N2.stored _ _ _ _ (by assumption)))
        (first
          | (go_at_call 88; ((with_reducible refine (trim_in (w0 := w) HX.out ?_).mono ?_)); (exact (HB.out.trans ((N2.bel (And.right (by assumption))).mono (by omega)))); rintro e w' ⟨rfl, -, rfl⟩)
          | (go_at_call 88; ((with_reducible refine (trim_in (w0 := w) HY.out ?_).mono ?_)); (exact (HB.out.trans ((N2.bel (And.right (by assumption))).mono (by omega)))); rintro e w' ⟨rfl, -, rfl⟩)
)
      obtain ⟨⟨p1, p2, p3, p4⟩, hk1⟩ := (by assumption : (_ ∧ _ ∧ _ ∧ _) ∧ N2 W0 w.heap.size nx X xs.length c ny Y ys.length d _)
      have hd1 := HX.out.dg (HB.out.trans (hk1.bel.mono (by omega)))
      have hd2 := HY.out.dg (HB.out.trans (hk1.bel.mono (by omega)))
      have HD1 := Lib.hid hd1
      have HD2 := Lib.hid hd2
      have HK1 := Lib.hid hk1
      clear hd1 hd2 hk1
      go_wp2_with fail
      refine (cmpw_any X Y c d _ _ _ HD1.out HD2.out).mono ?_
      rintro e w2 ⟨rfl, hdr⟩
      have hk2 := HK1.out.below hdr.below
      clear hdr p1 p2 p3 p4
      go_wp2_with fail
      go_region_held3 (fun w' => (w'.cell? ⟨w.heap.size, 0, none⟩ = some (.bool nx) ∧ w'.cell? ⟨w.heap.size, 1, none⟩ = some (.slice X xs.length c) ∧ w'.cell? ⟨w.heap.size + 1, 0, none⟩ = some (.bool ny) ∧ w'.cell? ⟨w.heap.size + 1, 1, none⟩ = some (.slice Y ys.length d)) ∧ N2 W0 w.heap.size nx X xs.length c ny Y ys.length d w') (first | exact N2.ks (by assumption) | exact N2.ks (N2.draws 1 (by assumption)) | exact N2.ks (N2.stored _ _ _ _ (by assumption)))
        (first
          | (go_at_call 98; ((with_reducible refine (subW ?_ ?_ hl2 hle2).mono ?_)); (exact HY.out.dg (HB.out.trans ((N2.bel (And.right (by assumption))).mono (by omega)))); (exact HX.out.dg (HB.out.trans ((N2.bel (And.right (by assumption))).mono (by omega)))); rintro e w' ⟨A1, c1, rfl, hs1, hbel⟩; have hk' := N2.below hbel (And.right (by assumption)); clear hbel)
          | (go_at_call 90; ((with_reducible refine (signed_any _ _ _ (W ((iv ny ys).natAbs - (iv nx xs).natAbs)) _ ?_ (W_lt _)).mono ?_)); assumption; rintro e w' ⟨v, rfl, hi1, hbel⟩; have hk' := N2.below hbel (And.right (by assumption)); have hi2 := Lib.hid hi1; obtain ⟨A2, c2, rfl, -⟩ := hi1; obtain ⟨b0, A0, n0, c0, hcl⟩ := hk'.r; obtain ⟨q1, q2, q3, q4⟩ := hcl; clear hbel))
      go_wp2
      rw [← HE.out]
      refine bodyPost_ret (v := .agg #[.bool (decide (iv ny (W ((iv ny ys).natAbs - (iv nx xs).natAbs)) < 0)), .slice A2 (W (iv ny (W ((iv ny ys).natAbs - (iv nx xs).natAbs))).natAbs).length c2]) (by simp [results, Try.results30, go_sem, q1, q2]) rfl ?_
      exact Cl.stored ⟨q1, q2, q3, q4⟩ hi2.out (HB.out.trans (hk'.bel.mono (by omega))) (by omega)
end Go.Proofs.Ytcbdnnboddahkaa.Ws
