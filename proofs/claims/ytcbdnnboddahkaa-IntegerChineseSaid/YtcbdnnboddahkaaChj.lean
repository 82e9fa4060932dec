/-
  WALKS: two residues joined.
-/
import Derived.Test.YtcbdnnboddahkaaChi
namespace Go.Proofs.Ytcbdnnboddahkaa.Cn
open Go.RowKit Ws
set_option linter.unusedVariables false
set_option maxRecDepth 100000
theorem cf_div {M m x : Int} (hm : 1 ≤ m) (hx : m ∣ M * x - gz M m) : (m / gz M m) ∣ (M / gz M m) * x - 1 := by
  have hg := gz_pos (a := M) hm
  obtain ⟨a, ha⟩ := gz_left M m
  obtain ⟨q, hq⟩ := gz_right M m
  have eq1 : m / gz M m = q := Int.ediv_eq_of_eq_mul_right (by omega) hq
  have ea1 : M / gz M m = a := Int.ediv_eq_of_eq_mul_right (by omega) ha
  rw [eq1, ea1]
  generalize gz M m = g at *
  obtain ⟨u, hu⟩ := hx
  refine ⟨u, ?_⟩
  have e : g * (a * x - 1) = g * (q * u) := by
    have e1 : g * (a * x - 1) = M * x - g := by rw [ha]; grind
    rw [e1, hu, hq]; grind
  exact Int.eq_of_mul_eq_mul_left (by omega) e
theorem js_of {R M r m x y : Int} (hm : 1 ≤ m) (hx : (m / gz M m) ∣ (M / gz M m) * x - 1) (hy : y = x % (m / gz M m)) :
    JS R M r m (((r % m - R).tdiv (gz M m) % (m / gz M m)) * y % (m / gz M m)) := by
  have hq := q_pos (M := M) hm
  refine ⟨Int.emod_nonneg _ (by omega), Int.emod_lt_of_pos _ (by omega), x, hx, ?_⟩
  rw [hy]
  generalize m / gz M m = q at *
  generalize (r % m - R).tdiv (gz M m) % q = d at *
  have e := Int.mul_emod d x q
  have e2 := Int.mul_emod d (x % q) q
  rw [Int.emod_emod_of_dvd _ (Int.dvd_refl q)] at e2
  rw [e2, ← e]
theorem tdiv_bd {z g : Int} (hg : 1 ≤ g) (h1 : -2000000000 ≤ z) (h2 : z ≤ 2000000000) : -2000000000 ≤ z.tdiv g ∧ z.tdiv g ≤ 2000000000 := by
  have h3 : (z.tdiv g).natAbs ≤ z.natAbs := by rw [Int.natAbs_tdiv]; exact Nat.div_le_self _ _
  omega
theorem q_le {M m : Int} (h : 1 ≤ m) : m / gz M m ≤ m := by
  have hg := gz_pos (a := M) h
  exact Int.ediv_le_self _ (by omega)
def JoinOut (R M r m : Int) (e : Ending) : Prop := ∃ s, JS R M r m s ∧ e = .returned (.agg #[.int .i64 (R + M * s), .int .i64 (M * (m / gz M m))])
set_option maxHeartbeats 1000000 in
theorem join_any (R M r m : Int) (w : World) (hR : 0 ≤ R) (hRM : R < M) (hM : 1 ≤ M) (hM2 : M ≤ 1000000000) (h1 : 1 ≤ m) (h2 : m ≤ 1000000000) :
    Calls Try.prog 127 #[.agg #[.int .i64 R, .int .i64 M], .agg #[.int .i64 r, .int .i64 m]] w fun e w' => JoinOut R M r m e ∧ Below w.heap.size w w' := by
  have hg := gz_pos (a := M) h1
  have hgl : gz M m ≤ m := Int.le_of_dvd (by omega) (gz_right M m)
  have hq1 := q_pos (M := M) h1
  have hq2 := q_le (M := M) h1
  have hB : Below w.heap.size w (((w.alloc (Obj.cells #[Value.int IntKind.i64 R, Value.int IntKind.i64 M] 66)).alloc (Obj.cells #[Value.int IntKind.i64 r, Value.int IntKind.i64 m] 66)).alloc (Obj.cells #[Value.int IntKind.i64 0, Value.int IntKind.i64 0] 66)) := by go_grown
  have c0 : (((w.alloc (Obj.cells #[Value.int IntKind.i64 R, Value.int IntKind.i64 M] 66)).alloc (Obj.cells #[Value.int IntKind.i64 r, Value.int IntKind.i64 m] 66)).alloc (Obj.cells #[Value.int IntKind.i64 0, Value.int IntKind.i64 0] 66)).cell? ⟨w.heap.size, 0, none⟩ = some (.int .i64 R) := by simp [go_sem]
  have c1 : (((w.alloc (Obj.cells #[Value.int IntKind.i64 R, Value.int IntKind.i64 M] 66)).alloc (Obj.cells #[Value.int IntKind.i64 r, Value.int IntKind.i64 m] 66)).alloc (Obj.cells #[Value.int IntKind.i64 0, Value.int IntKind.i64 0] 66)).cell? ⟨w.heap.size, 1, none⟩ = some (.int .i64 M) := by simp [go_sem]
  have c2 : (((w.alloc (Obj.cells #[Value.int IntKind.i64 R, Value.int IntKind.i64 M] 66)).alloc (Obj.cells #[Value.int IntKind.i64 r, Value.int IntKind.i64 m] 66)).alloc (Obj.cells #[Value.int IntKind.i64 0, Value.int IntKind.i64 0] 66)).cell? ⟨w.heap.size + 1, 0, none⟩ = some (.int .i64 r) := by simp [go_sem]
  have c3 : (((w.alloc (Obj.cells #[Value.int IntKind.i64 R, Value.int IntKind.i64 M] 66)).alloc (Obj.cells #[Value.int IntKind.i64 r, Value.int IntKind.i64 m] 66)).alloc (Obj.cells #[Value.int IntKind.i64 0, Value.int IntKind.i64 0] 66)).cell? ⟨w.heap.size + 1, 1, none⟩ = some (.int .i64 m) := by simp [go_sem]
  have c4 : (((w.alloc (Obj.cells #[Value.int IntKind.i64 R, Value.int IntKind.i64 M] 66)).alloc (Obj.cells #[Value.int IntKind.i64 r, Value.int IntKind.i64 m] 66)).alloc (Obj.cells #[Value.int IntKind.i64 0, Value.int IntKind.i64 0] 66)).cell? ⟨w.heap.size + 1 + 1, 0, none⟩ = some (.int .i64 0) := by simp [go_sem]
  have c5 : (((w.alloc (Obj.cells #[Value.int IntKind.i64 R, Value.int IntKind.i64 M] 66)).alloc (Obj.cells #[Value.int IntKind.i64 r, Value.int IntKind.i64 m] 66)).alloc (Obj.cells #[Value.int IntKind.i64 0, Value.int IntKind.i64 0] 66)).cell? ⟨w.heap.size + 1 + 1, 1, none⟩ = some (.int .i64 0) := by simp [go_sem]
  have f4 : (((w.alloc (Obj.cells #[Value.int IntKind.i64 R, Value.int IntKind.i64 M] 66)).alloc (Obj.cells #[Value.int IntKind.i64 r, Value.int IntKind.i64 m] 66)).alloc (Obj.cells #[Value.int IntKind.i64 0, Value.int IntKind.i64 0] 66)).frozen? ⟨w.heap.size + 1 + 1, 0, none⟩ = false := by simp [go_sem]
  have f5 : (((w.alloc (Obj.cells #[Value.int IntKind.i64 R, Value.int IntKind.i64 M] 66)).alloc (Obj.cells #[Value.int IntKind.i64 r, Value.int IntKind.i64 m] 66)).alloc (Obj.cells #[Value.int IntKind.i64 0, Value.int IntKind.i64 0] 66)).frozen? ⟨w.heap.size + 1 + 1, 1, none⟩ = false := by simp [go_sem]
  have HB := Lib.hid hB
  clear hB
  go_enter Try.func127, Try.ntmps127
  go_wp2_with fail
  generalize (((w.alloc (Obj.cells #[Value.int IntKind.i64 R, Value.int IntKind.i64 M] 66)).alloc (Obj.cells #[Value.int IntKind.i64 r, Value.int IntKind.i64 m] 66)).alloc (Obj.cells #[Value.int IntKind.i64 0, Value.int IntKind.i64 0] 66)) = W0 at *
  refine (cofactor_any M m _ (by omega) hM2 h1 h2).mono ?_
  rintro e w1 ⟨⟨x, rfl, hx, hx1, hx2⟩, rfl⟩
  rw [show ((Int.gcd M m : Nat) : Int) = gz M m from rfl] at hx ⊢
  have HJ := Lib.hid (js_of (R := R) (r := r) h1 (cf_div h1 hx) rfl)
  have hrm1 := Int.emod_nonneg r (b := m) (by omega)
  have hrm2 := Int.emod_lt_of_pos r (b := m) (by omega)
  have htd := tdiv_bd (z := r % m - R) hg (by omega) (by omega)
  have hg0 : gz M m ≠ 0 := by omega
  clear hx
  generalize hgg : gz M m = g at *
  generalize hqq : m / g = q at *
  have hwr : IntKind.i64.wrap ((r % m - R).tdiv g) = (r % m - R).tdiv g := by simp only [IntKind.wrap_i64]; omega
  have hd1 := Int.emod_nonneg ((r % m - R).tdiv g) (b := q) (by omega)
  have hd2 := Int.emod_lt_of_pos ((r % m - R).tdiv g) (b := q) (by omega)
  have hy1 := Int.emod_nonneg x (b := q) (by omega)
  have hy2 := Int.emod_lt_of_pos x (b := q) (by omega)
  have hp := mul_bd hd1 hd2 hy1 hy2 (by omega)
  have hs1 := Int.emod_nonneg ((r % m - R).tdiv g % q * (x % q)) (b := q) (by omega)
  have hs2 := Int.emod_lt_of_pos ((r % m - R).tdiv g % q * (x % q)) (b := q) (by omega)
  obtain ⟨hp1, hp2⟩ := hp
  have hMs : 0 ≤ M * ((r % m - R).tdiv g % q * (x % q) % q) ∧ M * ((r % m - R).tdiv g % q * (x % q) % q) ≤ 1000000000000000000 := by
    refine ⟨Int.mul_nonneg (by omega) hs1, ?_⟩
    have := Int.mul_le_mul hM2 (show (r % m - R).tdiv g % q * (x % q) % q ≤ 1000000000 by omega) hs1 (by omega)
    omega
  have hMq : 0 ≤ M * q ∧ M * q ≤ 1000000000000000000 := by
    refine ⟨Int.mul_nonneg (by omega) (by omega), ?_⟩
    have := Int.mul_le_mul hM2 (show q ≤ 1000000000 by omega) (by omega) (by omega)
    omega
  obtain ⟨hMs1, hMs2⟩ := hMs
  obtain ⟨hMq1, hMq2⟩ := hMq
  obtain ⟨ht1, ht2⟩ := htd
  have HQQ := Lib.hid hqq
  have HGG := Lib.hid hgg
  have hqd : m / g = q := hqq
  clear hgg hqq
  go_wp2
  go_quiet ((go_at_call 114; exact quietE (residue_any _ _ _ (by omega) (by omega))))
  generalize hdd : (r % m - R).tdiv g % q = d at *
  go_wp2_with (go_at_call 114; refine (residue_any _ _ _ (by omega) (by omega)).mono ?_; rintro e w2 ⟨rfl, rfl⟩)
  go_wp2
  have e4 : (W0.drewN nq).cell? ⟨w.heap.size + 1 + 1, 0, none⟩ = some (.int .i64 0) := c4
  have e5 : (W0.drewN nq).cell? ⟨w.heap.size + 1 + 1, 1, none⟩ = some (.int .i64 0) := c5
  refine bodyPost_ret (v := .agg #[.int .i64 (R + M * (d * (x % q) % q)), .int .i64 (M * q)]) (by simp [results, Try.results127, go_sem, e4, e5]) rfl ?_
  exact ⟨⟨_, HJ.out, by rw [HGG.out, HQQ.out]⟩, ((below_drawn HB.out nq).setCell (p := ⟨w.heap.size + 1 + 1, 0, none⟩) (by simp; omega) _).setCell (p := ⟨w.heap.size + 1 + 1, 1, none⟩) (by simp; omega) _⟩
end Go.Proofs.Ytcbdnnboddahkaa.Cn
