/-
  WALKS of the reference: digits multiplied, trimmed into new memory, divided.
-/
import Derived.Test.YtcbdnnboddahkaaRsub
import Derived.Test.YtcbdnnboddahkaaWd
namespace Go.Proofs.Ytcbdnnboddahkaa.Ws
/-! WALKS of the reference: digits multiplied. -/
open Go.RowKit
set_option linter.unusedVariables false
set_option maxRecDepth 100000
theorem rtrim_n (A : Option Addr) (c l : Nat) (xs : List Nat) (w : World) (n : Nat) (h : Sl w .i64 A c xs) (hl : xs.length = l) (hlen : l ≤ 4294967296) (hb : ∀ x ∈ xs, x < 65536) (hv : val 65536 xs = n) :
    Calls Try.prog 108 #[.slice A l c] w fun e w' => SlOut w .i64 (D n) e w' := by
  subst hl; exact rtrim_any A c xs w n h hlen hb hv
/-- the state ahead of place k -/
def TSt (B : Nat) (xs ys us : List Nat) (i k cy : Nat) : Prop := (TIn B xs ys us i k cy (xs.getD i 0) ∧ k ≤ ys.length) ∨ (k = ys.length + 1 ∧ cy = 0 ∧ TOut B xs ys us (i + 1))
theorem TSt.len {B : Nat} {xs ys us : List Nat} {i k cy : Nat} (h : TSt B xs ys us i k cy) : us.length = xs.length + ys.length + 1 ∧ k ≤ ys.length + 1 := by
  rcases h with ⟨h, hk⟩ | ⟨rfl, -, h⟩
  · exact ⟨h.2.1, by omega⟩
  · exact ⟨h.2.1, by omega⟩
theorem TSt.lt {B : Nat} {xs ys us : List Nat} {i k cy : Nat} (hB : 2 ≤ B) (h : TSt B xs ys us i k cy) : cy < B ∧ ∀ u ∈ us, u < B := by
  rcases h with ⟨h, hk⟩ | ⟨rfl, rfl, h⟩
  · exact ⟨h.2.2.1, h.1⟩
  · exact ⟨by omega, h.1⟩
theorem TSt.in_ {B : Nat} {xs ys us : List Nat} {i k cy : Nat} (h : TSt B xs ys us i k cy) (hk : k ≤ ys.length) : TIn B xs ys us i k cy (xs.getD i 0) := by
  rcases h with ⟨h, -⟩ | ⟨rfl, -, -⟩
  · exact h
  · omega
theorem TSt.out_ {B : Nat} {xs ys us : List Nat} {i k : Nat} (h : TSt B xs ys us i k 0) (hk : ys.length ≤ k) (hi : i < xs.length) : TOut B xs ys us (i + 1) := by
  rcases h with ⟨h, h1⟩ | ⟨rfl, -, h⟩
  · have : k = ys.length := by omega
    subst this; exact h.zero hi
  · exact h
set_option maxHeartbeats 2000000 in
theorem rtimes_list (A C : Option Addr) (c d : Nat) (xs ys : List Nat) (w : World) (hx : Sl w .i64 A c xs) (hy : Sl w .i64 C d ys) (bx : ∀ x ∈ xs, x < 65536) (bz : ∀ x ∈ ys, x < 65536) (hlx : xs.length ≤ 8000000) (hly : ys.length ≤ 8000000) :
    Calls Try.prog 104 #[.slice A xs.length c, .slice C ys.length d] w fun e w' => SlOut w .i64 (D (val 65536 xs * val 65536 ys)) e w' := by
  have hmk := makeI (xs.length + ys.length + 1) (by omega) (xs.length + ys.length + 1) (by omega)
  obtain ⟨hrx, hcx, hmx, _⟩ := hx
  obtain ⟨hry, hcy, hmy, _⟩ := hy
  have HX := Lib.hid hrx
  have HY := Lib.hid hry
  have BX := Lib.hid bx
  have BY := Lib.hid bz
  clear hrx hry bx bz
  go_enter Try.func104, Try.ntmps104
  go_wp2
  go_loopw [6, 7, 8] (fun t6 _ _ wr => ∃ (i : Nat) (zs : List Nat), (TOut 65536 xs ys zs i ∧ i ≤ xs.length ∧ Ar wr w.heap.size .i64 3 zs ∧ Below w.heap.size w wr) ∧ t6 = .int .i64 i) (fun t6 _ _ _ => xs.length - (intOf t6).toNat)
  case atStart => exact ⟨0, _, ⟨TOut.start (by decide) xs ys, by omega, Ar.new' _ _ _ _, (Below.refl _ _).alloc (Nat.le_refl _) _⟩, rfl⟩
  case round =>
    obtain ⟨i, zs, ⟨hinv, hi, har, hbel⟩, rfl⟩ := hrel
    obtain ⟨wo, rfl⟩ : ∃ wo : World, wo = wr := ⟨_, rfl⟩
    have HI := Lib.hid hinv
    have HA := Lib.hid har
    have HB := Lib.hid hbel
    clear hinv har hbel
    by_cases hlt : i < xs.length
    · go_wp2
      go_loopw [7, 8] (fun t7 t8 wr => ∃ (k cy : Nat) (us : List Nat), (TSt 65536 xs ys us i k cy ∧ Ar wr w.heap.size .i64 3 us ∧ Below w.heap.size w wr) ∧ t7 = .int .i64 cy ∧ t8 = .int .i64 k) (fun _ t8 _ => ys.length + 2 - (intOf t8).toNat)
      case atStart => exact ⟨0, 0, zs, ⟨.inl ⟨HI.out.begin (by decide) _, by omega⟩, HA.out, HB.out⟩, rfl, rfl⟩
      case round =>
        clear HI HA HB
        obtain ⟨k, cy, us, ⟨hst, har, hbel⟩, rfl, rfl⟩ := hrel
        obtain ⟨hul, hkl⟩ := hst.len
        obtain ⟨hcb, hub⟩ := hst.lt (by decide)
        have HS := Lib.hid hst
        have HC := Lib.hid har
        have HD := Lib.hid hbel
        have HU := Lib.hid hul
        have HUB := Lib.hid hub
        clear hst har hbel hul hub
        by_cases hlj : k < ys.length
        · obtain ⟨b, o, x, rfl, EX, hcell, hb⟩ := (HX.out.below HD.out).at_ hlt
          have hxb : x < 65536 := by rw [← EX.out]; exact getD_lt BX.out (by decide) i
          obtain ⟨b', o', y, rfl, EY, hcell', hb'⟩ := (HY.out.below HD.out).at_ hlj
          have hyb : y < 65536 := by rw [← EY.out]; exact getD_lt BY.out (by decide) k
          obtain ⟨z, EZ, hz⟩ := HC.out.cell' (j := i + k) (by have := HU.out; omega)
          have hzb : z < 65536 := by rw [← EZ.out]; exact getD_lt HUB.out (by decide) _
          have hfz := HC.out.frozen (i + k)
          have hxy : x * y ≤ 65535 * 65535 := Nat.mul_le_mul (by omega) (by omega)
          have hxy2 : 0 ≤ (x : Int) * y := by rw [← Int.natCast_mul]; omega
          have hxy3 : (x : Int) * y ≤ 4294836225 := by rw [← Int.natCast_mul]; omega
          have hin := HS.out.in_ (by omega)
          rw [EX.out] at hin
          have hN := hin.step (by decide) hlt hlj hxb (by rw [EY.out]; exact hyb) (cy + z + x * y) (by rw [EY.out, EZ.out])
          rw [← EX.out] at hN
          have HN := Lib.hid hN
          have hij : ((i : Int) + k).toNat = i + k := by omega
          have e1 : ((cy : Int) + z + (x : Int) * y) % 65536 = ((cy + z + x * y) % 65536 : Nat) := by rw [← Int.natCast_mul]; omega
          have e2 : ((cy : Int) + z + (x : Int) * y) / 65536 = ((cy + z + x * y) / 65536 : Nat) := by rw [← Int.natCast_mul]; omega
          have E1 := Lib.hid e1
          have E2 := Lib.hid e2
          rw [EX.out] at HN
          clear hN hin e1 e2 hxy
          go_wp2
          go_quiet (fail)
          go_wp2
          go_roundw
          case rel => exact ⟨k + 1, (cy + z + x * y) / 65536, us.set (i + k) ((cy + z + x * y) % 65536), ⟨.inl ⟨by rw [EX.out]; exact HN.out, by omega⟩, (HC.out.drewN nq).seti (by exact E1.out), (below_drawn HD.out nq).setCell (Nat.le_refl _) _⟩, congrArg (Value.int .i64) E2.out, by go_num⟩
          case measure => simp [intOf]; omega
        · by_cases hc0 : 0 < cy
          · have hk : k = ys.length := by
              rcases HS.out with ⟨_, h⟩ | ⟨_, h, _⟩
              · omega
              · omega
            subst hk
            have hin := HS.out.in_ (Nat.le_refl _)
            obtain ⟨z, EZ, hz⟩ := HC.out.cell' (j := i + ys.length) (by have := HU.out; omega)
            have hz0 : z = 0 := by rw [← EZ.out]; exact hin.2.2.2.2 _ (Nat.le_refl _)
            subst hz0
            have hfz := HC.out.frozen (i + ys.length)
            have HN := Lib.hid (hin.done (by decide) hlt)
            have hij : ((i : Int) + ys.length).toNat = i + ys.length := by omega
            clear hin
            go_wp2
            go_roundw
            case rel => exact ⟨ys.length + 1, 0, us.set (i + ys.length) cy, ⟨.inr ⟨rfl, rfl, HN.out⟩, HC.out.seti (by omega), HD.out.setCell (Nat.le_refl _) _⟩, congrArg (Value.int .i64) (by omega), by go_num⟩
            case measure => simp [intOf]
          · have hcz : cy = 0 := by omega
            subst hcz
            have HN := Lib.hid (HS.out.out_ (by omega) hlt)
            go_wp2
            go_roundw
            case rel => exact ⟨i + 1, us, ⟨HN.out, by omega, HC.out, HD.out⟩, by go_num⟩
            case measure => simp [intOf]; omega
    · have hii : i = xs.length := by omega
      have hi2 := HI.out
      rw [hii] at hi2
      have HD := Lib.hid hi2.done
      have HL := Lib.hid hi2.2.1
      have HB2 := Lib.hid hi2.1
      clear hii hi2
      have HS2 : Hid (Sl wo .i64 (some ⟨w.heap.size, 0, none⟩) (xs.length + ys.length + 1) zs) := Lib.hid (by
        have := HA.out.sl (by have := HL.out; omega)
        rw [HL.out] at this; exact this)
      go_wp2_with fail
      refine (rtrim_n (some ⟨w.heap.size, 0, none⟩) (xs.length + ys.length + 1) (xs.length + ys.length + 1) zs _ _ HS2.out HL.out (by omega) HB2.out HD.out).mono ?_
      rintro e w1 ⟨A1, c1, rfl, hs, hb⟩
      have HQ := Lib.hid hs
      have HB3 := Lib.hid (HB.out.trans (hb.mono HB.out.size))
      clear hs hb
      go_wp2
      go_ret
      exact ⟨_, _, rfl, HQ.out, HB3.out⟩
/-! WALKS of the reference: trim makes new memory. -/
open Go.RowKit
set_option linter.unusedVariables false
set_option maxRecDepth 100000
/-- a result in new memory -/
def SlNew (w : World) (k : IntKind) (xs : List Nat) (e : Ending) (w' : World) : Prop := ∃ A c, e = .returned (.slice A xs.length c) ∧ Sl w' k A c xs ∧ Below w.heap.size w w' ∧ ∀ ad, A = some ad → w.heap.size ≤ ad.block
theorem own_new {w : World} {base n : Nat} {T : TypeId} {k : IntKind} {v : Value} {xs : List Nat} (h : w.ownsRow base T 1 v n (vals k xs)) : ∃ A c, v = .slice A xs.length c ∧ n = xs.length ∧ Sl w k A c xs ∧ ∀ ad, A = some ad → base ≤ ad.block := by
  obtain ⟨A, c, rfl, hn, hs⟩ := own_sl h
  refine ⟨A, c, rfl, hn, hs, fun ad he => ?_⟩
  subst he
  exact (h.lt ad.block (by simp [Value.ownBlock])).1
theorem Sl.far {w : World} {k : IntKind} {A : Option Addr} {c : Nat} {xs : List Nat} (h : Sl w k A c xs) {p : Addr} (hp : ∀ ad, A = some ad → ad.block ≠ p.block) (u : Value) : Sl (w.setCell p u) k A c xs := by
  refine ⟨fun h0 => ?_, h.le, h.max, h.nil⟩
  obtain ⟨b, o, rfl, hc⟩ := h.rd h0
  refine ⟨b, o, rfl, fun j hj => ?_⟩
  rw [World.cell?_setCell_other _ _ _ _ (fun e => hp _ rfl (by rw [e]))]
  exact hc j hj
set_option maxHeartbeats 1000000 in
theorem rtrim_new (A : Option Addr) (c : Nat) (xs : List Nat) (w : World) (h : Sl w .i64 A c xs) (hlen : xs.length ≤ 4294967296) :
    Calls Try.prog 108 #[.slice A xs.length c] w fun e w' => SlNew w .i64 (trimL xs) e w' := by
  obtain ⟨i0, hi, hz0, hz1, hz2⟩ := info_parts infoI
  have hlc := h.le
  have hmx := h.max
  rcases A with _ | ad
  · have hn := h.nil rfl
    have hx : xs = [] := by
      rcases xs with _ | ⟨x, t⟩
      · rfl
      · obtain ⟨b, o, e, _⟩ := h.rd (by simp); cases e
    subst hn hx
    clear h
    go_enter Try.func108, Try.ntmps108
    go_wp2
    refine wp_loop_rounds 1 ?_
    rw [rounds_succ]
    go_wp2_with (at_builtin; refine wpList_append_own_none rfl _ _ 74 rfl w.heap.size 3 i0 1 Try.underlying74 hi _ 0 [] rfl (World.ownsRow_made w #[] 0 (Nat.le_refl _) (Nat.zero_le _) rfl) rfl ?_)
    go_ret
    exact ⟨some ⟨w.heap.size, 0, none⟩, 0, rfl, ⟨Rd.nil_, by simp [trimL], by omega, fun _ => rfl⟩, (Below.refl _ _).alloc (Nat.le_refl _) _, fun ad h => by cases h; exact Nat.le_refl _⟩
  · have HR := Lib.hid h
    clear h
    go_enter Try.func108, Try.ntmps108
    go_wp2
    go_loop [3] (fun n => ∃ k : Nat, TrimInv xs k ∧ n = .int .i64 k) (fun n => (intOf n).toNat)
    case atStart => exact ⟨xs.length, ⟨Nat.le_refl _, fun j h1 h2 => by omega⟩, rfl⟩
    case round =>
      obtain ⟨k, hk, rfl⟩ := hrel
      have HK := Lib.hid hk
      have hkl := hk.1
      clear hk
      by_cases hgo : 0 < k ∧ xs.getD (k - 1) 0 = 0
      · obtain ⟨h0, hx0⟩ := hgo
        obtain ⟨m, rfl⟩ : ∃ m, k = m + 1 := ⟨k - 1, by omega⟩
        obtain ⟨b, o, x, e, HX, hcell, hb⟩ := HR.out.rd.at_ (j := m) (by omega)
        injection e with e
        subst e
        have hxx : x = 0 := by rw [← HX.out]; simpa using hx0
        subst hxx
        have HD := Lib.hid (HK.out.down HX.out)
        clear hx0
        go_wp2
        go_round
        case rel => exact ⟨m, HD.out, by go_num⟩
        case measure => simp [intOf]
      · have HF := Lib.hid (trimL_found xs k hkl HK.out.2 (by
          rcases Nat.eq_zero_or_pos k with h | h
          · exact .inl h
          · exact .inr (fun h2 => hgo ⟨h, h2⟩)))
        have hlt : (trimL xs).length = k := by rw [HF.out, List.length_take, Nat.min_eq_left hkl]
        have HS : Hid (Sl w .i64 (some ad) c (trimL xs)) := Lib.hid (by rw [trimL_take xs]; exact HR.out.take_ _)
        have HL := Lib.hid hlt
        have hap : ∀ c' : Nat, True := fun _ => trivial
        by_cases h0 : k = 0
        · subst h0
          clear hlt hap hgo
          go_wp2_with (at_builtin; refine wpList_append_own _ rfl _ _ 74 rfl w.heap.size 3 i0 (.int .i64 0) 1 8 Try.underlying74 hi hz0 hz1 hz2 rfl (by decide) _ 0 [] rfl (World.ownsRow_made w #[] 0 (Nat.le_refl _) (Nat.zero_le _) rfl) ad 0 c (vals .i64 (trimL xs)) rfl (by rw [vals_length, HL.out]) (HS.out.alloc _).rd.cells (vals_one _ _) (by unfold maxLen; omega) (by omega) (by simp) ?_)
          intro v1 w1 hown hgrow _
          have hbel : Below w.heap.size w w1 := ((Below.refl _ _).alloc (Nat.le_refl _) _).grown hgrow (by simp) (by simp [Value.ownBlock])
          obtain ⟨A1, c1, rfl, -, hs, hnw⟩ := own_new (k := .i64) (xs := trimL xs) hown
          have HNW := Lib.hid hnw
          have HQ := Lib.hid hs
          have HB := Lib.hid hbel
          clear hown hgrow hs hbel hnw
          go_wp2
          go_ret
          exact ⟨A1, c1, rfl, HQ.out, HB.out, HNW.out⟩
        · obtain ⟨m, rfl⟩ : ∃ m, k = m + 1 := ⟨k - 1, by omega⟩
          obtain ⟨b, o, x, e, HX, hcell, hb⟩ := HR.out.rd.at_ (j := m) (by omega)
          injection e with e
          subst e
          have hxx : ((x : Int) == 0) = false := by
            have : x ≠ 0 := fun h2 => hgo ⟨by omega, by rw [Nat.add_sub_cancel, HX.out]; exact h2⟩
            simp; omega
          clear hlt hap hgo h0
          go_wp2_with (at_builtin; refine wpList_append_own _ rfl _ _ 74 rfl w.heap.size 3 i0 (.int .i64 0) 1 8 Try.underlying74 hi hz0 hz1 hz2 rfl (by decide) _ 0 [] rfl (World.ownsRow_made w #[] 0 (Nat.le_refl _) (Nat.zero_le _) rfl) ⟨b, o, none⟩ (m + 1) c (vals .i64 (trimL xs)) rfl (by rw [vals_length, HL.out]; omega) (HS.out.alloc _).rd.cells (vals_one _ _) (by unfold maxLen; omega) (by omega) (by simp) ?_)
          intro v1 w1 hown hgrow _
          have hbel : Below w.heap.size w w1 := ((Below.refl _ _).alloc (Nat.le_refl _) _).grown hgrow (by simp) (by simp [Value.ownBlock])
          obtain ⟨A1, c1, rfl, -, hs, hnw⟩ := own_new (k := .i64) (xs := trimL xs) hown
          have HNW := Lib.hid hnw
          have HQ := Lib.hid hs
          have HB := Lib.hid hbel
          clear hown hgrow hs hbel hnw
          go_wp2
          go_ret
          exact ⟨A1, c1, rfl, HQ.out, HB.out, HNW.out⟩
theorem rtrim_new_n (A : Option Addr) (c l : Nat) (xs : List Nat) (w : World) (n : Nat) (h : Sl w .i64 A c xs) (hl : xs.length = l) (hlen : l ≤ 4294967296) (hb : ∀ x ∈ xs, x < 65536) (hv : val 65536 xs = n) :
    Calls Try.prog 108 #[.slice A l c] w fun e w' => SlNew w .i64 (D n) e w' := by
  subst hl
  have := rtrim_new A c xs w h hlen
  rw [trim_D hb, hv] at this
  exact this
/-! WALKS of the reference: digits divided. -/
open Go.RowKit
set_option linter.unusedVariables false
set_option maxRecDepth 100000
/-- quotient and remainder as digits -/
def QrD (a b : Nat) (w : World) (e : Ending) (w' : World) : Prop := ∃ A c C d, e = .returned (.tuple #[.slice A (D (a / b)).length c, .slice C (D (a % b)).length d]) ∧ Sl w' .i64 A c (D (a / b)) ∧ Sl w' .i64 C d (D (a % b)) ∧ Below w.heap.size w w'
theorem newI (w : World) (x : Nat) : Sl (w.alloc (Obj.cells #[Value.int IntKind.i64 (x : Int)] 3)) .i64 (some ⟨w.heap.size, 0, none⟩) 1 [x] := (Ar.new w .i64 3 [x]).sl (by simp)
theorem rtimes_one (C : Option Addr) (d b m g : Nat) (w : World) (hy : Sl w .i64 C d (D b)) (hz : Sl w .i64 (some ⟨g, 0, none⟩) 1 [m]) (hm : m < 65536) (hly : (D b).length ≤ 8000000) :
    Calls Try.prog 104 #[.slice C (D b).length d, .slice (some ⟨g, 0, none⟩) 1 1] w fun e w' => SlOut w .i64 (D (b * m)) e w' := by
  have h := rtimes_list C (some ⟨g, 0, none⟩) d 1 (D b) [m] w hy hz (D_lt b) (by simpa using hm) hly (by simp)
  rw [val_D, show val 65536 [m] = m from by simp [val]] at h
  exact h
theorem mod_sub (R b : Nat) : R - b * (R / b) = R % b := by have := Nat.div_add_mod R b; omega
set_option maxHeartbeats 4000000 in
theorem rdiv_any (X Y : Option Addr) (cx cy a b : Nat) (w : World) (hx : Sl w .i64 X cx (D a)) (hy : Sl w .i64 Y cy (D b)) (hb : b ≠ 0) (hla : (D a).length ≤ 3000000) (hlb : (D b).length ≤ 3000000) :
    Calls Try.prog 106 #[.slice X (D a).length cx, .slice Y (D b).length cy] w fun e w' => QrD a b w e w' := by
  obtain ⟨i0, hi, hz0, hz1, hz2⟩ := info_parts infoI
  have hmk := makeI (D a).length (by omega) (D a).length (by omega)
  have hcx := hx.le
  have hcxm := hx.max
  have hcy := hy.le
  have hcym := hy.max
  have hb1 : 1 ≤ b := by omega
  have HX := Lib.hid hx.rd
  have HY := Lib.hid hy
  clear hx hy hb
  go_enter Try.func106, Try.ntmps106
  go_wp2
  go_loopw [7, 8, 9, 10, 11] (fun t7 t8 _ _ _ wr => ∃ (k r : Nat) (qs : List Nat) (R : Option Addr) (cr : Nat), (RDInv b (D a) qs k r ∧ k ≤ (D a).length ∧ Ar wr w.heap.size .i64 3 qs ∧ Sl wr .i64 R cr (D r) ∧ Below w.heap.size w wr) ∧ t7 = .slice R (D r).length cr ∧ t8 = .int .i64 ((k : Int) - 1)) (fun _ t8 _ _ _ _ => (intOf t8 + 1).toNat)
  case atStart => exact ⟨(D a).length, 0, _, none, 0, ⟨RDInv.start _ hb1, Nat.le_refl _, Ar.new' _ _ _ _, Sl.nil_, (Below.refl _ _).alloc (Nat.le_refl _) _⟩, rfl, rfl⟩
  case round =>
    obtain ⟨k, r, qs, R, cr, ⟨hinv, hk, har, hsr, hbel⟩, rfl, rfl⟩ := hrel
    obtain ⟨wo, rfl⟩ : ∃ wo : World, wo = wr := ⟨_, rfl⟩
    have hrb := hinv.2.2.1
    have hql := hinv.2.1
    have HI := Lib.hid hinv
    have HA := Lib.hid har
    have HS := Lib.hid hsr
    have HB := Lib.hid hbel
    have HQL := Lib.hid hql
    have hsz := har.lt
    have hrl : (D r).length ≤ 3000000 := Nat.le_trans (D_len_mono (Nat.le_of_lt hrb)) hlb
    have hcr := hsr.le
    have hcrm := hsr.max
    clear hinv har hsr hbel hql
    by_cases h0 : k = 0
    · subst h0
      have hd := HI.out.done
      rw [val_D] at hd
      have HD := Lib.hid hd.1
      have hr := hd.2
      have HS2 := Lib.hid (HA.out.sl (by have := HQL.out; omega))
      clear hd
      subst hr
      go_wp2_with fail
      refine (rtrim_n (some ⟨w.heap.size, 0, none⟩) (D a).length (D a).length qs _ (a / b) (by rw [← HQL.out]; exact HS2.out) HQL.out (by omega) HI.out.1 HD.out).mono ?_
      rintro e w1 ⟨A1, c1, rfl, hs, hbl⟩
      have HQ := Lib.hid hs
      have HR := Lib.hid (HS.out.below hbl)
      have HB3 := Lib.hid (HB.out.trans (hbl.mono HB.out.size))
      clear hs hbl
      go_wp2
      go_ret2
      exact ⟨A1, c1, R, cr, rfl, HQ.out, HR.out, HB3.out⟩
    · obtain ⟨i, rfl⟩ : ∃ i, k = i + 1 := ⟨k - 1, by omega⟩
      have hlt : i < (D a).length := by omega
      obtain ⟨p, o, x, rfl, EX, hcell, hpb⟩ := (HX.out.below HB.out).at_ hlt
      have hxb : x < 65536 := by rw [← EX.out]; exact getD_lt (D_lt a) (by decide) i
      have HBS := Lib.hid (Bs.start (d := b) hrb hxb)
      have HN := Lib.hid (HI.out.step hlt EX.out hxb)
      have hRl : (D (r * 65536 + x)).length ≤ 3000001 := by
        have h1 : r * 65536 + x < 65536 ^ ((D r).length + 1) := by
          have := dgs_length_lt 65536 (by decide) r
          have h2 : r + 1 ≤ 65536 ^ (D r).length := this
          have h3 := Nat.mul_le_mul_right 65536 h2
          rw [Nat.pow_succ]; omega
        have h4 : (D (r * 65536 + x)).length ≤ (D r).length + 1 := dgs_length_le 65536 (by decide) _ _ h1
        omega
      have hval : val 65536 (x :: D r) = r * 65536 + x := by simp only [val, val_D]; omega
      have hdig : ∀ z ∈ x :: D r, z < 65536 := by
        intro z hz
        rcases List.mem_cons.1 hz with rfl | hz
        · exact hxb
        · exact D_lt r z hz
      have HVAL := Lib.hid hval
      have HDIG := Lib.hid hdig
      have hown0 := World.ownsRow_lit (base := wo.heap.size) (size := 1) (e := 3) wo #[Value.int IntKind.i64 (x : Int)] 1 (Nat.le_refl _) (by unfold maxLen; omega) rfl
      have HO := Lib.hid hown0
      clear hval hdig hown0 h0
      have hfin : ∃ (q : Nat), q = (r * 65536 + x) / b := ⟨_, rfl⟩
      clear hfin
      rcases R with _ | ad
      · have hr0 : D r = [] := by
          rcases hh : D r with _ | ⟨y, t⟩
          · rfl
          · have := HS.out.rd (by rw [hh]; simp)
            obtain ⟨_, _, e, _⟩ := this; cases e
        have hc0 := HS.out.nil rfl
        subst hc0
        have HR0 := Lib.hid hr0
        have hrl0 : (D r).length = 0 := by rw [hr0]; rfl
        clear hr0
        rw [hrl0]
        go_wp2_with (at_builtin; refine wpList_append_own_none rfl _ _ 74 rfl wo.heap.size 3 i0 1 Try.underlying74 hi _ 1 _ rfl HO.out rfl ?_)
        have hs1 : Sl (wo.alloc (Obj.cells #[Value.int IntKind.i64 (x : Int)] 3)) .i64 (some ⟨wo.heap.size, 0, none⟩) 1 (x :: D r) := by rw [HR0.out]; exact newI wo x
        have hbw : Below wo.heap.size wo (wo.alloc (Obj.cells #[Value.int IntKind.i64 (x : Int)] 3)) := (Below.refl _ _).alloc (Nat.le_refl _) _
        have HS1 := Lib.hid hs1
        have HBW := Lib.hid hbw
        clear hs1 hbw
        go_wp2_with fail
        refine (rtrim_new_n (some ⟨wo.heap.size, 0, none⟩) 1 1 (x :: D r) _ (r * 65536 + x) HS1.out (by rw [HR0.out]; rfl) (by omega) HDIG.out HVAL.out).mono ?_
        rintro e w2 ⟨A2, c2, rfl, hs2, hb2, hnw⟩
        have HFR : Hid (∀ ad, A2 = some ad → ad.block ≠ w.heap.size) := Lib.hid (fun ad he => by have h1 := hnw ad he; have h2 := HBW.out.size; first | omega | (simp at h1 h2; omega))
        have HS2 := Lib.hid hs2
        have HBN := Lib.hid (HBW.out.trans (hb2.mono HBW.out.size))
        clear hs2 hb2 hnw HS1 HBW HO HR0 hrl0
        have HA2 := Lib.hid (HA.out.below HBN.out hsz)
        have HY2 := Lib.hid ((HY.out.below HB.out).below HBN.out)
        have HB2 := Lib.hid (HB.out.trans (HBN.out.mono HB.out.size))
        have hsz2 : w.heap.size < w2.heap.size := HA2.out.lt
        go_wp2
        go_loopw [9, 10, 11] (fun t9 t10 _ wr => ∃ lo hi : Nat, (Bs (r * 65536 + x) b lo hi ∧ Below w2.heap.size w2 wr) ∧ t9 = .int .i64 lo ∧ t10 = .int .i64 hi) (fun t9 t10 _ _ => ((intOf t10) - (intOf t9)).toNat)
        case atStart => exact ⟨0, 65535, ⟨HBS.out, Below.refl _ _⟩, rfl, rfl⟩
        case round =>
          obtain ⟨lo, hgh, ⟨hbs, hbel⟩, rfl, rfl⟩ := hrel
          obtain ⟨wi, rfl⟩ : ∃ wi : World, wi = wr := ⟨_, rfl⟩
          have hb1' := hbs.2.2
          have hb0' := hbs.1
          have HI2 := Lib.hid hbs
          have HBI := Lib.hid hbel
          have hszi := hbel.size
          clear hbs hbel hb0'
          by_cases hlt2 : lo < hgh
          · obtain ⟨m, hm⟩ : ∃ m, m = (lo + hgh + 1) / 2 := ⟨_, rfl⟩
            have em : ((lo : Int) + hgh + 1) / 2 = (m : Int) := by omega
            have hm1 : lo < m := by omega
            have hm2 : m ≤ hgh := by omega
            clear hm
            have hbw2 : Below wi.heap.size wi (wi.alloc (Obj.cells #[Value.int IntKind.i64 (m : Int)] 3)) := (Below.refl _ _).alloc (Nat.le_refl _) _
            have HN1 := Lib.hid (newI wi m)
            have HY3 := Lib.hid ((HY2.out.below HBI.out).below hbw2)
            have HS3 := Lib.hid ((HS2.out.below HBI.out).below hbw2)
            have HBW2 := Lib.hid (HBI.out.trans (hbw2.mono HBI.out.size))
            clear hbw2
            by_cases hless : r * 65536 + x < b * m
            · have hd : decide (r * 65536 + x < b * m) = true := decide_eq_true hless
              have HNN := Lib.hid (HI2.out.less hb1 hm2 hless)
              clear hless
              go_wp2_with fail
              refine (rtimes_one Y cy b m wi.heap.size _ HY3.out HN1.out (by omega) (by omega)).mono ?_
              rintro e w4 ⟨A4, c4, rfl, hs4, hb4⟩
              have HS4 := Lib.hid hs4
              have HS5 := Lib.hid (HS3.out.below hb4)
              have HB4 := Lib.hid (HBW2.out.trans (hb4.mono HBW2.out.size))
              clear hs4 hb4
              go_wp2_with fail
              refine (rless_any A2 A4 c2 c4 _ _ _ HS5.out HS4.out).mono ?_
              rw [hd]
              rintro e w5 ⟨rfl, n5, rfl⟩
              have HB5 := Lib.hid (below_drawn HB4.out n5)
              clear hd HS4 HS5 HB4 HBW2 HS3 HY3 HN1
              go_wp2
              go_roundw
              case rel => exact ⟨lo, m - 1, ⟨HNN.out, HB5.out⟩, rfl, congrArg (Value.int .i64) (by omega)⟩
              case measure => simp [intOf]; omega
            · have hd : decide (r * 65536 + x < b * m) = false := decide_eq_false hless
              have HNN := Lib.hid (HI2.out.more hb1 hless)
              clear hless
              go_wp2_with fail
              refine (rtimes_one Y cy b m wi.heap.size _ HY3.out HN1.out (by omega) (by omega)).mono ?_
              rintro e w4 ⟨A4, c4, rfl, hs4, hb4⟩
              have HS4 := Lib.hid hs4
              have HS5 := Lib.hid (HS3.out.below hb4)
              have HB4 := Lib.hid (HBW2.out.trans (hb4.mono HBW2.out.size))
              clear hs4 hb4
              go_wp2_with fail
              refine (rless_any A2 A4 c2 c4 _ _ _ HS5.out HS4.out).mono ?_
              rw [hd]
              rintro e w5 ⟨rfl, n5, rfl⟩
              have HB5 := Lib.hid (below_drawn HB4.out n5)
              clear hd HS4 HS5 HB4 HBW2 HS3 HY3 HN1
              go_wp2
              go_roundw
              case rel => exact ⟨m, hgh, ⟨HNN.out, HB5.out⟩, rfl, rfl⟩
              case measure => simp [intOf]; omega
          · have hlo := HI2.out.done (by omega)
            have hlb : lo < 65536 := by rw [hlo]; exact rdiv_lt hrb hxb
            have HLO := Lib.hid hlo
            have HAi := Lib.hid (HA2.out.below HBI.out hsz2)
            obtain ⟨z, EZ, hz⟩ := HAi.out.cell' (j := i) (by have := HQL.out; omega)
            have hfz := HAi.out.frozen i
            have hAs := HAi.out.set_ i lo
            have hset : Below w.heap.size wi (wi.setCell ⟨w.heap.size, i, none⟩ (.int .i64 (lo : Int))) := (Below.refl w.heap.size wi).setCell (p := ⟨w.heap.size, i, none⟩) (Nat.le_refl _) _
            have hszs : (wi.setCell ⟨w.heap.size, i, none⟩ (.int .i64 (lo : Int))).heap.size = wi.heap.size := by simp
            have hYs : Sl (wi.setCell ⟨w.heap.size, i, none⟩ (.int .i64 (lo : Int))) .i64 Y cy (D b) := HY.out.below (HB2.out.trans ((HBI.out.mono HB2.out.size).trans hset))
            have hSs := (HS2.out.below HBI.out).far (p := ⟨w.heap.size, i, none⟩) HFR.out (.int .i64 (lo : Int))
            have hbw3 := (Below.refl (wi.setCell ⟨w.heap.size, i, none⟩ (.int .i64 (lo : Int))).heap.size (wi.setCell ⟨w.heap.size, i, none⟩ (.int .i64 (lo : Int)))).alloc (Nat.le_refl _) (Obj.cells #[Value.int IntKind.i64 (lo : Int)] 3)
            have hn3 := newI (wi.setCell ⟨w.heap.size, i, none⟩ (.int .i64 (lo : Int))) lo
            have HYS := Lib.hid (hYs.below hbw3)
            have HSS := Lib.hid (hSs.below hbw3)
            have HAS := Lib.hid (hAs.below hbw3 (by rw [hszs]; omega))
            have HBS2 := Lib.hid ((HB2.out.trans ((HBI.out.mono HB2.out.size).trans hset)).trans (hbw3.mono (by rw [hszs]; omega)))
            have hszt : ((wi.setCell ⟨w.heap.size, i, none⟩ (.int .i64 (lo : Int))).alloc (Obj.cells #[Value.int IntKind.i64 (lo : Int)] 3)).heap.size = wi.heap.size + 1 := by simp
            rw [hszs] at hn3
            have HN3 := Lib.hid hn3
            have HSZT := Lib.hid hszt
            clear hlo hset hAs hszs hYs hSs hbw3 hn3 hszt
            go_wp2_with fail
            refine (rtimes_one Y cy b lo wi.heap.size _ HYS.out HN3.out hlb (by omega)).mono ?_
            rintro e w4 ⟨A4, c4, rfl, hs4, hb4⟩
            have HS4 := Lib.hid hs4
            have HS5 := Lib.hid (HSS.out.below hb4)
            have HA4 := Lib.hid (HAS.out.below hb4 (by rw [HSZT.out]; omega))
            have HB4 := Lib.hid (HBS2.out.trans (hb4.mono HBS2.out.size))
            clear hs4 hb4
            go_wp2_with fail
            refine (rminusD HS5.out HS4.out (by omega) (by rw [HLO.out]; exact Nat.mul_div_le _ _)).mono ?_
            rw [HLO.out, mod_sub]
            rintro e w5 ⟨A5, c5, rfl, hs5, hb5⟩
            have HS6 := Lib.hid hs5
            have HA5 := Lib.hid (HA4.out.below hb5 HA4.out.lt)
            have HB5 := Lib.hid (HB4.out.trans (hb5.mono HB4.out.size))
            clear hs5 hb5
            go_wp2
            go_roundw
            case rel => exact ⟨i, (r * 65536 + x) % b, qs.set i lo, A5, c5, ⟨by rw [HLO.out]; exact HN.out, by omega, HA5.out, HS6.out, HB5.out⟩, rfl, by go_num⟩
            case measure => simp [intOf]
      · go_wp2_with (at_builtin; refine wpList_append_own _ rfl _ _ 74 rfl wo.heap.size 3 i0 (.int .i64 0) 1 8 Try.underlying74 hi hz0 hz1 hz2 rfl (by decide) _ 1 _ rfl HO.out ad (D r).length cr (vals .i64 (D r)) rfl (by rw [vals_length]; omega) (HS.out.alloc _).rd.cells (vals_one _ _) (by unfold maxLen; omega) (by omega) (by simp) ?_)
        intro v1 w1 hown hgrow _
        have hbw : Below wo.heap.size wo w1 := ((Below.refl _ _).alloc (Nat.le_refl _) _).grown hgrow (by simp) (by simp [Value.ownBlock])
        obtain ⟨A1, c1, rfl, hl1, hs1⟩ := own_sl (k := .i64) (xs := x :: D r) hown
        have HS1 := Lib.hid hs1
        have HBW := Lib.hid hbw
        clear hown hgrow hs1 hbw
        go_wp2_with fail
        refine (rtrim_new_n A1 c1 (x :: D r).length (x :: D r) _ (r * 65536 + x) HS1.out rfl (by simp; omega) HDIG.out HVAL.out).mono ?_
        rintro e w2 ⟨A2, c2, rfl, hs2, hb2, hnw⟩
        have HFR : Hid (∀ ad, A2 = some ad → ad.block ≠ w.heap.size) := Lib.hid (fun ad he => by have h1 := hnw ad he; have h2 := HBW.out.size; first | omega | (simp at h1 h2; omega))
        have HS2 := Lib.hid hs2
        have HBN := Lib.hid (HBW.out.trans (hb2.mono HBW.out.size))
        clear hs2 hb2 hnw HS1 HBW HO hl1
        have HA2 := Lib.hid (HA.out.below HBN.out hsz)
        have HY2 := Lib.hid ((HY.out.below HB.out).below HBN.out)
        have HB2 := Lib.hid (HB.out.trans (HBN.out.mono HB.out.size))
        have hsz2 : w.heap.size < w2.heap.size := HA2.out.lt
        go_wp2
        go_loopw [9, 10, 11] (fun t9 t10 _ wr => ∃ lo hi : Nat, (Bs (r * 65536 + x) b lo hi ∧ Below w2.heap.size w2 wr) ∧ t9 = .int .i64 lo ∧ t10 = .int .i64 hi) (fun t9 t10 _ _ => ((intOf t10) - (intOf t9)).toNat)
        case atStart => exact ⟨0, 65535, ⟨HBS.out, Below.refl _ _⟩, rfl, rfl⟩
        case round =>
          obtain ⟨lo, hgh, ⟨hbs, hbel⟩, rfl, rfl⟩ := hrel
          obtain ⟨wi, rfl⟩ : ∃ wi : World, wi = wr := ⟨_, rfl⟩
          have hb1' := hbs.2.2
          have hb0' := hbs.1
          have HI2 := Lib.hid hbs
          have HBI := Lib.hid hbel
          have hszi := hbel.size
          clear hbs hbel hb0'
          by_cases hlt2 : lo < hgh
          · obtain ⟨m, hm⟩ : ∃ m, m = (lo + hgh + 1) / 2 := ⟨_, rfl⟩
            have em : ((lo : Int) + hgh + 1) / 2 = (m : Int) := by omega
            have hm1 : lo < m := by omega
            have hm2 : m ≤ hgh := by omega
            clear hm
            have hbw2 : Below wi.heap.size wi (wi.alloc (Obj.cells #[Value.int IntKind.i64 (m : Int)] 3)) := (Below.refl _ _).alloc (Nat.le_refl _) _
            have HN1 := Lib.hid (newI wi m)
            have HY3 := Lib.hid ((HY2.out.below HBI.out).below hbw2)
            have HS3 := Lib.hid ((HS2.out.below HBI.out).below hbw2)
            have HBW2 := Lib.hid (HBI.out.trans (hbw2.mono HBI.out.size))
            clear hbw2
            by_cases hless : r * 65536 + x < b * m
            · have hd : decide (r * 65536 + x < b * m) = true := decide_eq_true hless
              have HNN := Lib.hid (HI2.out.less hb1 hm2 hless)
              clear hless
              go_wp2_with fail
              refine (rtimes_one Y cy b m wi.heap.size _ HY3.out HN1.out (by omega) (by omega)).mono ?_
              rintro e w4 ⟨A4, c4, rfl, hs4, hb4⟩
              have HS4 := Lib.hid hs4
              have HS5 := Lib.hid (HS3.out.below hb4)
              have HB4 := Lib.hid (HBW2.out.trans (hb4.mono HBW2.out.size))
              clear hs4 hb4
              go_wp2_with fail
              refine (rless_any A2 A4 c2 c4 _ _ _ HS5.out HS4.out).mono ?_
              rw [hd]
              rintro e w5 ⟨rfl, n5, rfl⟩
              have HB5 := Lib.hid (below_drawn HB4.out n5)
              clear hd HS4 HS5 HB4 HBW2 HS3 HY3 HN1
              go_wp2
              go_roundw
              case rel => exact ⟨lo, m - 1, ⟨HNN.out, HB5.out⟩, rfl, congrArg (Value.int .i64) (by omega)⟩
              case measure => simp [intOf]; omega
            · have hd : decide (r * 65536 + x < b * m) = false := decide_eq_false hless
              have HNN := Lib.hid (HI2.out.more hb1 hless)
              clear hless
              go_wp2_with fail
              refine (rtimes_one Y cy b m wi.heap.size _ HY3.out HN1.out (by omega) (by omega)).mono ?_
              rintro e w4 ⟨A4, c4, rfl, hs4, hb4⟩
              have HS4 := Lib.hid hs4
              have HS5 := Lib.hid (HS3.out.below hb4)
              have HB4 := Lib.hid (HBW2.out.trans (hb4.mono HBW2.out.size))
              clear hs4 hb4
              go_wp2_with fail
              refine (rless_any A2 A4 c2 c4 _ _ _ HS5.out HS4.out).mono ?_
              rw [hd]
              rintro e w5 ⟨rfl, n5, rfl⟩
              have HB5 := Lib.hid (below_drawn HB4.out n5)
              clear hd HS4 HS5 HB4 HBW2 HS3 HY3 HN1
              go_wp2
              go_roundw
              case rel => exact ⟨m, hgh, ⟨HNN.out, HB5.out⟩, rfl, rfl⟩
              case measure => simp [intOf]; omega
          · have hlo := HI2.out.done (by omega)
            have hlb : lo < 65536 := by rw [hlo]; exact rdiv_lt hrb hxb
            have HLO := Lib.hid hlo
            have HAi := Lib.hid (HA2.out.below HBI.out hsz2)
            obtain ⟨z, EZ, hz⟩ := HAi.out.cell' (j := i) (by have := HQL.out; omega)
            have hfz := HAi.out.frozen i
            have hAs := HAi.out.set_ i lo
            have hset : Below w.heap.size wi (wi.setCell ⟨w.heap.size, i, none⟩ (.int .i64 (lo : Int))) := (Below.refl w.heap.size wi).setCell (p := ⟨w.heap.size, i, none⟩) (Nat.le_refl _) _
            have hszs : (wi.setCell ⟨w.heap.size, i, none⟩ (.int .i64 (lo : Int))).heap.size = wi.heap.size := by simp
            have hYs : Sl (wi.setCell ⟨w.heap.size, i, none⟩ (.int .i64 (lo : Int))) .i64 Y cy (D b) := HY.out.below (HB2.out.trans ((HBI.out.mono HB2.out.size).trans hset))
            have hSs := (HS2.out.below HBI.out).far (p := ⟨w.heap.size, i, none⟩) HFR.out (.int .i64 (lo : Int))
            have hbw3 := (Below.refl (wi.setCell ⟨w.heap.size, i, none⟩ (.int .i64 (lo : Int))).heap.size (wi.setCell ⟨w.heap.size, i, none⟩ (.int .i64 (lo : Int)))).alloc (Nat.le_refl _) (Obj.cells #[Value.int IntKind.i64 (lo : Int)] 3)
            have hn3 := newI (wi.setCell ⟨w.heap.size, i, none⟩ (.int .i64 (lo : Int))) lo
            have HYS := Lib.hid (hYs.below hbw3)
            have HSS := Lib.hid (hSs.below hbw3)
            have HAS := Lib.hid (hAs.below hbw3 (by rw [hszs]; omega))
            have HBS2 := Lib.hid ((HB2.out.trans ((HBI.out.mono HB2.out.size).trans hset)).trans (hbw3.mono (by rw [hszs]; omega)))
            have hszt : ((wi.setCell ⟨w.heap.size, i, none⟩ (.int .i64 (lo : Int))).alloc (Obj.cells #[Value.int IntKind.i64 (lo : Int)] 3)).heap.size = wi.heap.size + 1 := by simp
            rw [hszs] at hn3
            have HN3 := Lib.hid hn3
            have HSZT := Lib.hid hszt
            clear hlo hset hAs hszs hYs hSs hbw3 hn3 hszt
            go_wp2_with fail
            refine (rtimes_one Y cy b lo wi.heap.size _ HYS.out HN3.out hlb (by omega)).mono ?_
            rintro e w4 ⟨A4, c4, rfl, hs4, hb4⟩
            have HS4 := Lib.hid hs4
            have HS5 := Lib.hid (HSS.out.below hb4)
            have HA4 := Lib.hid (HAS.out.below hb4 (by rw [HSZT.out]; omega))
            have HB4 := Lib.hid (HBS2.out.trans (hb4.mono HBS2.out.size))
            clear hs4 hb4
            go_wp2_with fail
            refine (rminusD HS5.out HS4.out (by omega) (by rw [HLO.out]; exact Nat.mul_div_le _ _)).mono ?_
            rw [HLO.out, mod_sub]
            rintro e w5 ⟨A5, c5, rfl, hs5, hb5⟩
            have HS6 := Lib.hid hs5
            have HA5 := Lib.hid (HA4.out.below hb5 HA4.out.lt)
            have HB5 := Lib.hid (HB4.out.trans (hb5.mono HB4.out.size))
            clear hs5 hb5
            go_wp2
            go_roundw
            case rel => exact ⟨i, (r * 65536 + x) % b, qs.set i lo, A5, c5, ⟨by rw [HLO.out]; exact HN.out, by omega, HA5.out, HS6.out, HB5.out⟩, rfl, by go_num⟩
            case measure => simp [intOf]
end Go.Proofs.Ytcbdnnboddahkaa.Ws
