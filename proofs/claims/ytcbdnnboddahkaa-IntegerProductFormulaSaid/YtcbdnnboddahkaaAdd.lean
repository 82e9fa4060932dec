/-
  WALKS: words added, words taken away.
-/
import Derived.Test.YtcbdnnboddahkaaTrim
import Derived.Test.YtcbdnnboddahkaaWd
namespace Go.Proofs.Ytcbdnnboddahkaa.Ws
open Go.RowKit
set_option linter.unusedVariables false
set_option maxRecDepth 100000
theorem infoW : (Try.prog.info? 113).map (fun i => (i.zero, i.size, i.bytes)) = some (some (.int .u32 0), 1, 4) := by kernel_rfl
theorem infoI : (Try.prog.info? 3).map (fun i => (i.zero, i.size, i.bytes)) = some (some (.int .i64 0), 1, 8) := by kernel_rfl
theorem makeW (n : Nat) (hn : n ≤ 17179869184) (m : Int) (hm : m = (n : Int)) (w : World) :
    (Instr.makeSlice 22 (.int .i64 m) (.int .i64 m)).run Try.prog w = .ok (.slice (some ⟨w.heap.size, 0, none⟩) n n) (w.alloc (newAr .u32 113 (List.replicate n 0))) := by
  obtain ⟨i0, hi, hz0, hz1, hz2⟩ := info_parts infoW
  exact make_zeros Try.underlying22 hi hz0 hz1 hz2 n (by omega) (by omega) w m hm
theorem makeI (n : Nat) (hn : n ≤ 17179869184) (m : Int) (hm : m = (n : Int)) (w : World) :
    (Instr.makeSlice 74 (.int .i64 m) (.int .i64 m)).run Try.prog w = .ok (.slice (some ⟨w.heap.size, 0, none⟩) n n) (w.alloc (newAr .i64 3 (List.replicate n 0))) := by
  obtain ⟨i0, hi, hz0, hz1, hz2⟩ := info_parts infoI
  exact make_zeros Try.underlying74 hi hz0 hz1 hz2 n (by omega) (by omega) w m hm
theorem Ar.trimmed {w : World} {g : Nat} {T : TypeId} {zs : List Nat} {n : Nat} (h : Ar w g .u32 T zs) (hm : zs.length ≤ 9223372036854775807) (hb : ∀ z ∈ zs, z < 4294967296) (hv : val 4294967296 zs = n) :
    Sl w .u32 (some ⟨g, 0, none⟩) zs.length (W n) ∧ (trimL zs).length = (W n).length := by
  have e := trim_W hb
  rw [hv] at e
  refine ⟨?_, by rw [e]⟩
  rw [← e, trimL_take zs]
  exact (h.sl hm).take_ _
theorem Ar.trimmedD {w : World} {g : Nat} {T : TypeId} {zs : List Nat} {n : Nat} (h : Ar w g .i64 T zs) (hm : zs.length ≤ 9223372036854775807) (hb : ∀ z ∈ zs, z < 65536) (hv : val 65536 zs = n) :
    Sl w .i64 (some ⟨g, 0, none⟩) zs.length (D n) ∧ (trimL zs).length = (D n).length := by
  have e := trim_D hb
  rw [hv] at e
  refine ⟨?_, by rw [e]⟩
  rw [← e, trimL_take zs]
  exact (h.sl hm).take_ _
theorem trim_ar (g n : Nat) (T : TypeId) (zs : List Nat) (N : Nat) (w : World) (har : Ar w g .u32 T zs) (hn : zs.length = n) (hm : n ≤ 9223372036854775807) (hb : ∀ z ∈ zs, z < 4294967296) (hv : val 4294967296 zs = N) :
    Calls Try.prog 88 #[.slice (some ⟨g, 0, none⟩) n n] w fun e w' => e = .returned (.slice (some ⟨g, 0, none⟩) (W N).length n) ∧ Sl w .u32 (some ⟨g, 0, none⟩) n (W N) ∧ w = w' := by
  subst hn
  obtain ⟨h1, h2⟩ := har.trimmed hm hb hv
  refine (trim_any (some ⟨g, 0, none⟩) zs.length zs w (har.sl hm)).mono ?_
  rintro e w' ⟨rfl, rfl⟩
  exact ⟨by rw [h2], h1, rfl⟩
set_option maxHeartbeats 1000000 in
theorem add_ge (A C : Option Addr) (c d : Nat) (xs ys : List Nat) (w : World) (hx : Sl w .u32 A c xs) (hy : Sl w .u32 C d ys) (bx : ∀ x ∈ xs, x < 4294967296) (bz : ∀ x ∈ ys, x < 4294967296) (hle : ys.length ≤ xs.length) (hlen : xs.length ≤ 4294967296) :
    Calls Try.prog 97 #[.slice A xs.length c, .slice C ys.length d] w fun e w' => SlOut w .u32 (W (val 4294967296 xs + val 4294967296 ys)) e w' := by
  have hmk := makeW (xs.length + 1) (by omega) (xs.length + 1) (by omega)
  have hns : ¬ xs.length < ys.length := by omega
  obtain ⟨hrx, hcx, hmx, _⟩ := hx
  obtain ⟨hry, hcy, hmy, _⟩ := hy
  have HX := Lib.hid hrx
  have HY := Lib.hid hry
  have BX := Lib.hid bx
  have BY := Lib.hid bz
  clear hrx hry bx bz
  go_enter Try.func97, Try.ntmps97
  go_wp2
  go_loopw [6, 7, 8, 9, 23] (fun t6 _ _ _ t23 wr => ∃ (i cy : Nat) (zs : List Nat), (AddInv 4294967296 xs ys zs i cy ∧ i ≤ xs.length ∧ zs.length = xs.length + 1 ∧ Ar wr w.heap.size .u32 113 zs ∧ Below w.heap.size w wr) ∧ t6 = .int .u64 cy ∧ t23 = .int .i64 i) (fun _ _ _ _ t23 _ => xs.length - (intOf t23).toNat)
  case atStart => exact ⟨0, 0, _, ⟨AddInv.start _ (by decide) xs ys (xs.length + 1), by omega, by simp, Ar.new' _ _ _ _, (Below.refl _ _).alloc (Nat.le_refl _) _⟩, rfl, rfl⟩
  case round =>
    obtain ⟨i, cy, zs, ⟨hinv, hi, hzl, har, hbel⟩, rfl, rfl⟩ := hrel
    have hc1 := hinv.2.1
    have HI := Lib.hid hinv
    have HA := Lib.hid har
    have HB := Lib.hid hbel
    have HZ := Lib.hid hzl
    clear hinv har hbel hzl
    by_cases hlt : i < xs.length
    · obtain ⟨b, o, x, rfl, EX, hcell, hb⟩ := (HX.out.below HB.out).at_ hlt
      have hxb : x < 4294967296 := by rw [← EX.out]; exact getD_lt BX.out (by decide) i
      obtain ⟨z, EZ, hz⟩ := HA.out.cell' (j := i) (by have := HZ.out; omega)
      have hfz := HA.out.frozen i
      by_cases hly : i < ys.length
      · obtain ⟨b', o', y, rfl, EY, hcell', hb'⟩ := (HY.out.below HB.out).at_ hly
        have hyb : y < 4294967296 := by rw [← EY.out]; exact getD_lt BY.out (by decide) i
        have HN := Lib.hid (HI.out.step (by decide) (by have := HZ.out; omega) BX.out BY.out (x + cy + y) (by rw [EX.out, EY.out]))
        go_wp2
        go_roundw
        case rel => exact ⟨i + 1, (x + cy + y) / 4294967296, zs.set i ((x + cy + y) % 4294967296), ⟨HN.out, by omega, by simp; exact HZ.out, HA.out.seti (by omega), HB.out.setCell (Nat.le_refl _) _⟩, by go_num, by go_num⟩
        case measure => simp [intOf]; omega
      · have EY : Hid (ys.getD i 0 = 0) := by rw [List.getD_eq_getElem?_getD, List.getElem?_eq_none (by omega)]; exact Lib.hid rfl
        have HN := Lib.hid (HI.out.step (by decide) (by have := HZ.out; omega) BX.out BY.out (x + cy) (by rw [EX.out, EY.out]; omega))
        go_wp2
        go_roundw
        case rel => exact ⟨i + 1, (x + cy) / 4294967296, zs.set i ((x + cy) % 4294967296), ⟨HN.out, by omega, by simp; exact HZ.out, HA.out.seti (by omega), HB.out.setCell (Nat.le_refl _) _⟩, by go_num, by go_num⟩
        case measure => simp [intOf]; omega
    · have hii : i = xs.length := by omega
      have hi2 := HI.out
      rw [hii] at hi2
      have hd := hi2.done (by decide) HZ.out (Nat.le_refl _) hle
      obtain ⟨z, EZ, hz⟩ := HA.out.cell' (j := xs.length) (by have := HZ.out; omega)
      have hfz := HA.out.frozen xs.length
      have hsl := (HA.out.set_ xs.length cy)
      have hcm : cy % 4294967296 = cy := Nat.mod_eq_of_lt (by omega)
      have HS := Lib.hid hsl
      have hlz : (zs.set xs.length cy).length = xs.length + 1 := by simp; exact HZ.out
      have HL := Lib.hid hlz
      have HD := Lib.hid hd
      clear hii hi2 hd hsl hlz
      go_wp2_with fail
      refine (trim_ar w.heap.size (xs.length + 1) 113 (zs.set xs.length cy) _ _ (by exact HS.out) (by exact HL.out) (by omega) HD.out.1 HD.out.2).mono ?_
      rintro e w1 ⟨rfl, hs, rfl⟩
      have HQ := Lib.hid hs
      clear hs
      go_wp2
      go_ret
      exact ⟨_, _, rfl, HQ.out, HB.out.setCell (Nat.le_refl _) _⟩
set_option maxHeartbeats 1000000 in
theorem add_lt (A C : Option Addr) (c d : Nat) (xs ys : List Nat) (w : World) (hx : Sl w .u32 A c xs) (hy : Sl w .u32 C d ys) (bx : ∀ x ∈ xs, x < 4294967296) (bz : ∀ x ∈ ys, x < 4294967296) (hls : ys.length < xs.length) (hlen : xs.length ≤ 4294967296) :
    Calls Try.prog 97 #[.slice C ys.length d, .slice A xs.length c] w fun e w' => SlOut w .u32 (W (val 4294967296 xs + val 4294967296 ys)) e w' := by
  have hmk := makeW (xs.length + 1) (by omega) (xs.length + 1) (by omega)
  have hle : ys.length ≤ xs.length := by omega
  obtain ⟨hrx, hcx, hmx, _⟩ := hx
  obtain ⟨hry, hcy, hmy, _⟩ := hy
  have HX := Lib.hid hrx
  have HY := Lib.hid hry
  have BX := Lib.hid bx
  have BY := Lib.hid bz
  clear hrx hry bx bz
  go_enter Try.func97, Try.ntmps97
  go_wp2
  go_loopw [6, 7, 8, 9, 23] (fun t6 _ _ _ t23 wr => ∃ (i cy : Nat) (zs : List Nat), (AddInv 4294967296 xs ys zs i cy ∧ i ≤ xs.length ∧ zs.length = xs.length + 1 ∧ Ar wr w.heap.size .u32 113 zs ∧ Below w.heap.size w wr) ∧ t6 = .int .u64 cy ∧ t23 = .int .i64 i) (fun _ _ _ _ t23 _ => xs.length - (intOf t23).toNat)
  case atStart => exact ⟨0, 0, _, ⟨AddInv.start _ (by decide) xs ys (xs.length + 1), by omega, by simp, Ar.new' _ _ _ _, (Below.refl _ _).alloc (Nat.le_refl _) _⟩, rfl, rfl⟩
  case round =>
    obtain ⟨i, cy, zs, ⟨hinv, hi, hzl, har, hbel⟩, rfl, rfl⟩ := hrel
    have hc1 := hinv.2.1
    have HI := Lib.hid hinv
    have HA := Lib.hid har
    have HB := Lib.hid hbel
    have HZ := Lib.hid hzl
    clear hinv har hbel hzl
    by_cases hlt : i < xs.length
    · obtain ⟨b, o, x, rfl, EX, hcell, hb⟩ := (HX.out.below HB.out).at_ hlt
      have hxb : x < 4294967296 := by rw [← EX.out]; exact getD_lt BX.out (by decide) i
      obtain ⟨z, EZ, hz⟩ := HA.out.cell' (j := i) (by have := HZ.out; omega)
      have hfz := HA.out.frozen i
      by_cases hly : i < ys.length
      · obtain ⟨b', o', y, rfl, EY, hcell', hb'⟩ := (HY.out.below HB.out).at_ hly
        have hyb : y < 4294967296 := by rw [← EY.out]; exact getD_lt BY.out (by decide) i
        have HN := Lib.hid (HI.out.step (by decide) (by have := HZ.out; omega) BX.out BY.out (x + cy + y) (by rw [EX.out, EY.out]))
        go_wp2
        go_roundw
        case rel => exact ⟨i + 1, (x + cy + y) / 4294967296, zs.set i ((x + cy + y) % 4294967296), ⟨HN.out, by omega, by simp; exact HZ.out, HA.out.seti (by omega), HB.out.setCell (Nat.le_refl _) _⟩, by go_num, by go_num⟩
        case measure => simp [intOf]; omega
      · have EY : Hid (ys.getD i 0 = 0) := by rw [List.getD_eq_getElem?_getD, List.getElem?_eq_none (by omega)]; exact Lib.hid rfl
        have HN := Lib.hid (HI.out.step (by decide) (by have := HZ.out; omega) BX.out BY.out (x + cy) (by rw [EX.out, EY.out]; omega))
        go_wp2
        go_roundw
        case rel => exact ⟨i + 1, (x + cy) / 4294967296, zs.set i ((x + cy) % 4294967296), ⟨HN.out, by omega, by simp; exact HZ.out, HA.out.seti (by omega), HB.out.setCell (Nat.le_refl _) _⟩, by go_num, by go_num⟩
        case measure => simp [intOf]; omega
    · have hii : i = xs.length := by omega
      have hi2 := HI.out
      rw [hii] at hi2
      have hd := hi2.done (by decide) HZ.out (Nat.le_refl _) hle
      obtain ⟨z, EZ, hz⟩ := HA.out.cell' (j := xs.length) (by have := HZ.out; omega)
      have hfz := HA.out.frozen xs.length
      have hsl := (HA.out.set_ xs.length cy)
      have hcm : cy % 4294967296 = cy := Nat.mod_eq_of_lt (by omega)
      have HS := Lib.hid hsl
      have hlz : (zs.set xs.length cy).length = xs.length + 1 := by simp; exact HZ.out
      have HL := Lib.hid hlz
      have HD := Lib.hid hd
      clear hii hi2 hd hsl hlz
      go_wp2_with fail
      refine (trim_ar w.heap.size (xs.length + 1) 113 (zs.set xs.length cy) _ _ (by exact HS.out) (by exact HL.out) (by omega) HD.out.1 HD.out.2).mono ?_
      rintro e w1 ⟨rfl, hs, rfl⟩
      have HQ := Lib.hid hs
      clear hs
      go_wp2
      go_ret
      exact ⟨_, _, rfl, HQ.out, HB.out.setCell (Nat.le_refl _) _⟩
theorem add_any (A C : Option Addr) (c d : Nat) (xs ys : List Nat) (w : World) (hx : Sl w .u32 A c xs) (hy : Sl w .u32 C d ys) (bx : ∀ x ∈ xs, x < 4294967296) (bz : ∀ x ∈ ys, x < 4294967296) (hlx : xs.length ≤ 4294967296) (hly : ys.length ≤ 4294967296) :
    Calls Try.prog 97 #[.slice A xs.length c, .slice C ys.length d] w fun e w' => SlOut w .u32 (W (val 4294967296 xs + val 4294967296 ys)) e w' := by
  rcases Nat.lt_or_ge xs.length ys.length with h | h
  · rw [Nat.add_comm]; exact add_lt C A d c ys xs w hy hx bz bx h hly
  · exact add_ge A C c d xs ys w hx hy bx bz h hlx
/-- one digit taken away, as the machine does it -/
theorem sub_digit (x y c : Nat) (hx : x < 4294967296) (hy : y < 4294967296) (hc : c ≤ 1) :
    ∃ d b : Nat, b ≤ 1 ∧ d < 4294967296 ∧ d + c + y = x + 4294967296 * b ∧ IntKind.u64.wrap (IntKind.u64.wrap ((x : Int) - c) - y) % 4294967296 = (d : Int) ∧ IntKind.u64.wrap (IntKind.u64.wrap ((x : Int) - c) - y) / 9223372036854775808 = (b : Int) := by
  by_cases h : c + y ≤ x
  · refine ⟨x - c - y, 0, by omega, by omega, by omega, ?_, ?_⟩ <;> simp only [IntKind.wrap_u64] <;> omega
  · refine ⟨x + 4294967296 - c - y, 1, by omega, by omega, by omega, ?_, ?_⟩ <;> simp only [IntKind.wrap_u64] <;> omega
theorem sub_digit1 (x c : Nat) (hx : x < 4294967296) (hc : c ≤ 1) :
    ∃ d b : Nat, b ≤ 1 ∧ d < 4294967296 ∧ d + c + 0 = x + 4294967296 * b ∧ IntKind.u64.wrap ((x : Int) - c) % 4294967296 = (d : Int) ∧ IntKind.u64.wrap ((x : Int) - c) / 9223372036854775808 = (b : Int) := by
  by_cases h : c ≤ x
  · refine ⟨x - c, 0, by omega, by omega, by omega, ?_, ?_⟩ <;> simp only [IntKind.wrap_u64] <;> omega
  · refine ⟨x + 4294967296 - c, 1, by omega, by omega, by omega, ?_, ?_⟩ <;> simp only [IntKind.wrap_u64] <;> omega
set_option maxHeartbeats 1000000 in
theorem sub_any (A C : Option Addr) (c d : Nat) (xs ys : List Nat) (w : World) (hx : Sl w .u32 A c xs) (hy : Sl w .u32 C d ys) (bx : ∀ x ∈ xs, x < 4294967296) (bz : ∀ x ∈ ys, x < 4294967296) (hle : ys.length ≤ xs.length) (hlen : xs.length ≤ 4294967296) (hval : val 4294967296 ys ≤ val 4294967296 xs) :
    Calls Try.prog 98 #[.slice A xs.length c, .slice C ys.length d] w fun e w' => SlOut w .u32 (W (val 4294967296 xs - val 4294967296 ys)) e w' := by
  have hmk := makeW xs.length (by omega) xs.length (by omega)
  obtain ⟨hrx, hcx, hmx, _⟩ := hx
  obtain ⟨hry, hcy, hmy, _⟩ := hy
  have HX := Lib.hid hrx
  have HY := Lib.hid hry
  have BX := Lib.hid bx
  have BY := Lib.hid bz
  have HV := Lib.hid hval
  clear hrx hry bx bz hval
  go_enter Try.func98, Try.ntmps98
  go_wp2
  go_loopw [6, 7, 8, 9, 15] (fun t6 _ _ _ t23 wr => ∃ (i cy : Nat) (zs : List Nat), (SubInv 4294967296 xs ys zs i cy ∧ i ≤ xs.length ∧ zs.length = xs.length ∧ Ar wr w.heap.size .u32 113 zs ∧ Below w.heap.size w wr) ∧ t6 = .int .u64 cy ∧ t23 = .int .i64 i) (fun _ _ _ _ t23 _ => xs.length - (intOf t23).toNat)
  case atStart => exact ⟨0, 0, _, ⟨SubInv.start _ (by decide) xs ys xs.length, by omega, by simp, Ar.new' _ _ _ _, (Below.refl _ _).alloc (Nat.le_refl _) _⟩, rfl, rfl⟩
  case round =>
    obtain ⟨i, cy, zs, ⟨hinv, hi, hzl, har, hbel⟩, rfl, rfl⟩ := hrel
    have hc1 := hinv.2.1
    have HI := Lib.hid hinv
    have HA := Lib.hid har
    have HB := Lib.hid hbel
    have HZ := Lib.hid hzl
    clear hinv har hbel hzl
    by_cases hlt : i < xs.length
    · obtain ⟨b, o, x, rfl, EX, hcell, hb⟩ := (HX.out.below HB.out).at_ hlt
      have hxb : x < 4294967296 := by rw [← EX.out]; exact getD_lt BX.out (by decide) i
      obtain ⟨z, EZ, hz⟩ := HA.out.cell' (j := i) (by have := HZ.out; omega)
      have hfz := HA.out.frozen i
      by_cases hly : i < ys.length
      · obtain ⟨b', o', y, rfl, EY, hcell', hb'⟩ := (HY.out.below HB.out).at_ hly
        have hyb : y < 4294967296 := by rw [← EY.out]; exact getD_lt BY.out (by decide) i
        obtain ⟨q, r, hr1, hq, hqr, e1, e2⟩ := sub_digit x y cy hxb hyb hc1
        have HN := Lib.hid (HI.out.step (by decide) (by have := HZ.out; omega) q r hr1 hq (by rw [EX.out, EY.out]; exact hqr))
        have E1 := Lib.hid e1
        have E2 := Lib.hid e2
        clear hqr e1 e2
        go_wp2
        go_roundw
        case rel => exact ⟨i + 1, r, zs.set i q, ⟨HN.out, by omega, by simp; exact HZ.out, HA.out.seti (by exact E1.out), HB.out.setCell (Nat.le_refl _) _⟩, (by rw [E2.out]), by go_num⟩
        case measure => simp [intOf]; omega
      · have EY : Hid (ys.getD i 0 = 0) := by rw [List.getD_eq_getElem?_getD, List.getElem?_eq_none (by omega)]; exact Lib.hid rfl
        obtain ⟨q, r, hr1, hq, hqr, e1, e2⟩ := sub_digit1 x cy hxb hc1
        have HN := Lib.hid (HI.out.step (by decide) (by have := HZ.out; omega) q r hr1 hq (by rw [EX.out, EY.out]; exact hqr))
        have E1 := Lib.hid e1
        have E2 := Lib.hid e2
        clear hqr e1 e2
        go_wp2
        go_roundw
        case rel => exact ⟨i + 1, r, zs.set i q, ⟨HN.out, by omega, by simp; exact HZ.out, HA.out.seti (by exact E1.out), HB.out.setCell (Nat.le_refl _) _⟩, (by rw [E2.out]), by go_num⟩
        case measure => simp [intOf]; omega
    · have hii : i = xs.length := by omega
      have hi2 := HI.out
      rw [hii] at hi2
      have HD := Lib.hid (hi2.done (by decide) HZ.out (Nat.le_refl _) hle HV.out)
      have HB2 := Lib.hid hi2.1
      clear hii hi2
      go_wp2_with fail
      refine (trim_ar w.heap.size xs.length 113 zs _ _ (by exact HA.out) (by exact HZ.out) (by omega) HB2.out HD.out).mono ?_
      rintro e w1 ⟨rfl, hs, rfl⟩
      have HQ := Lib.hid hs
      clear hs
      go_wp2
      go_ret
      exact ⟨_, _, rfl, HQ.out, HB.out⟩
end Go.Proofs.Ytcbdnnboddahkaa.Ws
