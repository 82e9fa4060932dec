/-
  The walk of the law IntegerTexts.
-/
import Derived.Test.YtcbdnnboddahkaaTxq
import Derived.Test.YtcbdnnboddahkaaV
import Derived.Test.YtcbdnnboddahkaaAwake
namespace Go.Proofs.Ytcbdnnboddahkaa.Tx
open Go.RowKit Ws
set_option linter.unusedVariables false
set_option maxRecDepth 100000
theorem few1_yes {l : Nat} (h : fewB [l] = true) : l ≤ 6 := by
  simpa [fewB] using h
theorem args1 {w : World} {g : Nat} {nx : Bool} {X : Option Addr} {l c : Nat} (T : TypeId) (hg : g = w.heap.size) : Args (w.alloc (.cells #[.bool nx, .slice X l c] T)) g [l] := by
  subst hg
  refine ⟨fun i hi => ?_⟩
  match i, hi with
  | 0, _ => exact ⟨X, c, by simp [go_sem]⟩
theorem Vs.draw {w : World} {L : List (Value × Bool × Int × Nat)} (h : Ws.Vs w L) : Ws.Vs w.drew L := Ws.Vs.below (w' := w.drewN 1) (below_drawn (Below.refl _ _) 1) h
theorem Ms.draw {w : World} {L : List (Nat × Bool × Option Addr × Nat × Nat)} (h : Ws.Ms w L) : Ws.Ms w.drew L := Ws.Ms.draws 1 h
theorem dv_txt {n : Nat} (h : n ≠ 0) : dv (((dgs 10 n).map fun x => x + 48).reverse) = n := by
  rw [← val_rev, List.map_reverse, List.reverse_reverse, List.map_map]
  have : (fun c => c - 48) ∘ (fun x => x + 48) = (id : Nat → Nat) := by funext x; simp
  rw [this, List.map_id]
  exact val_dgs 10 (by decide) n
theorem txt_len {neg : Bool} {N k : Nat} (h : N < 10 ^ k) : (txt neg N).length ≤ k + 1 := by
  unfold txt
  split
  · simp
  · have := dgs_length_le 10 (by decide) k N h
    cases neg <;> simp <;> omega
theorem txt_parse (neg : Bool) (N : Nat) (hl : (txt neg N).length ≤ 400) : pz (txt neg N) = sg neg N ∧ pe (txt neg N) = 0 := by
  by_cases h0 : N = 0
  · subst h0
    have e : txt neg 0 = [48] := by unfold txt; rw [if_pos rfl]
    rw [e]
    cases neg <;> exact ⟨by decide, by decide⟩
  · obtain ⟨k1, k2⟩ := txt_num h0
    have k3 := dv_txt h0
    have e : txt neg N = (if neg then [45] else []) ++ ((dgs 10 N).map fun d => d + 48).reverse := by unfold txt; rw [if_neg h0]
    have hd : ∀ c ∈ ((dgs 10 N).map fun d => d + 48).reverse, c ≠ 45 := by
      intro c hc
      obtain ⟨x, _, rfl⟩ := List.mem_map.1 (List.mem_reverse.1 hc)
      omega
    rw [e] at hl ⊢
    generalize ((dgs 10 N).map fun d => d + 48).reverse = r at *
    have hlt : ¬ 400 < ((if neg = true then [45] else []) ++ r).length := by omega
    unfold pz pe
    rw [if_neg hlt, if_neg hlt]
    clear hlt
    cases neg with
    | true =>
      have hn : negB ((if true then [45] else []) ++ r) = true := rfl
      have hb : body ((if true then [45] else []) ++ r) = r := by unfold body; rw [hn]; rfl
      have ho : okB ((if true then [45] else []) ++ r) = true := by unfold okB; rw [hb, k1, decide_eq_false k2]; simp
      rw [ho, hn, hb, k3]
      exact ⟨rfl, rfl⟩
    | false =>
      have hn : negB ((if false then [45] else []) ++ r) = false := by
        unfold negB
        cases r with
        | nil => rfl
        | cons c t => exact decide_eq_false (by simpa using hd c (by simp))
      have hb : body ((if false then [45] else []) ++ r) = r := by unfold body; rw [hn]; rfl
      have ho : okB ((if false then [45] else []) ++ r) = true := by unfold okB; rw [hb, k1, hn]; rfl
      rw [ho, hn, hb, k3]
      exact ⟨rfl, rfl⟩
theorem sg_iv (neg : Bool) (xs : List Nat) : sg neg (iv neg xs).natAbs = iv neg xs := by
  rw [iv_natAbs]; unfold sg iv; rfl
theorem pz_len (l : List Nat) : (W (pz l).natAbs).length ≤ 400 := by
  unfold pz
  split
  · exact Nat.zero_le _
  · split
    · rename_i h1 h2
      have hn : numB (body l) = true := by unfold okB at h2; rw [Bool.and_eq_true] at h2; exact h2.1
      have h3 := dv_lt (num_le hn)
      have h4 : (body l).length ≤ 400 := by unfold body; split <;> first | omega | (simp; omega)
      have h5 := ten_W h3
      split <;> simp <;> omega
    · exact Nat.zero_le _
theorem six_W {N : Nat} (h : (W N).length ≤ 6) : N < 10 ^ 60 := by
  have h1 := W_pow N
  have h2 : 4294967296 ^ (W N).length ≤ 4294967296 ^ 6 := Nat.pow_le_pow_right (by decide) h
  have h3 : (4294967296 : Nat) ^ 6 ≤ 10 ^ 60 := by decide
  omega
set_option maxHeartbeats 2500000 in
theorem walk_texts (nx : Bool) (X : Option Addr) (c : Nat) (xs : List Nat) (s : ByteArray) (w : World) (hx : Sl w .u32 X c xs) (bx : ∀ x ∈ xs, x < 4294967296) :
    Calls Try.prog 6 #[.agg #[.bool nx, .slice X xs.length c], .string s] w fun e w' => e = .returned (.bool true) ∧ Below w.heap.size w w' := by
  have hlx := hx.le
  have hmx := hx.max
  have HX := Lib.hid hx
  have BX := Lib.hid bx
  clear hx bx
  have hA := args1 (w := (w.alloc (Obj.cells #[Value.bool nx, Value.slice X xs.length c] 24))) (g := w.heap.size + 1) (nx := nx) (X := X) (l := xs.length) (c := c) 24 (by simp)
  have hB3 : Below w.heap.size w ((w.alloc (Obj.cells #[Value.bool nx, Value.slice X xs.length c] 24)).alloc (Obj.cells #[Value.bool nx, Value.slice X xs.length c] 24)) := by go_grown
  have hM := (Ms.nil_ w).new nx X xs.length c
  have hM4 := hM.below ((Below.refl (w.alloc (Obj.cells #[Value.bool nx, Value.slice X xs.length c] 24)).heap.size (w.alloc (Obj.cells #[Value.bool nx, Value.slice X xs.length c] 24))).alloc (Nat.le_refl _) (Obj.cells #[Value.bool nx, Value.slice X xs.length c] 24))
  have HARG := Lib.hid hA
  have HB3 := Lib.hid hB3
  have HM := Lib.hid hM4
  clear hA hB3 hM hM4
  cases hf : fewB [xs.length] with
  | false =>
    have HF := Lib.hid hf
    clear hf
    go_enter Try.func6, Try.ntmps6
    go_wp2_with fail
    refine (short_any (w.heap.size + 1) [xs.length] _ HARG.out (by simp) (by simp; omega)).mono ?_
    rw [HF.out]
    rintro e w1 ⟨rfl, rfl⟩
    go_wp2_with fail
    refine (awake_any _).mono ?_
    rintro e w2 ⟨rfl, hb⟩
    have HB := Lib.hid (HB3.out.trans (hb.mono HB3.out.size))
    clear hb
    go_wp2
    go_ret
    exact ⟨rfl, HB.out⟩
  | true =>
    have hl6 := few1_yes hf
    have HF := Lib.hid hf
    clear hf
    have HIX : Hid (IntIn w nx X c xs) := Lib.hid ⟨HX.out, BX.out, by omega⟩
    have hwx : (W (iv nx xs).natAbs).length ≤ 6 := Nat.le_trans HIX.out.wlen hl6
    obtain ⟨l, hl⟩ : ∃ l, Is s l := ⟨_, is_of s⟩
    have hls := hl.size
    have HS := Lib.hid hl
    obtain ⟨N, hN⟩ : ∃ N, (iv nx xs).natAbs = N := ⟨_, rfl⟩
    have HNN := Lib.hid hN
    have htl : (txt nx N).length ≤ 61 := txt_len (six_W (by rw [← hN]; exact hwx))
    have htp := txt_parse nx N (by omega)
    have HPZ : Hid (pz (txt nx N) = iv nx xs) := Lib.hid (by rw [htp.1, ← hN, sg_iv])
    have HPE := Lib.hid htp.2
    have HTL := Lib.hid htl
    have HLS := Lib.hid hls
    clear hl hN htl htp hls
    by_cases h1 : s.size ≤ 100
    · have hll : l.length ≤ 100 := by have := HLS.out; omega
      go_enter Try.func6, Try.ntmps6
      go_wp2_with fail
      refine (short_any (w.heap.size + 1) [xs.length] _ HARG.out (by simp) (by simp; omega)).mono ?_
      rw [HF.out]
      rintro e w1 ⟨rfl, rfl⟩
      have hms := HM.out
      have hvs := Vs.cons (Vs.nil_ _) (IntE.raw (HIX.out.below HB3.out) hl6)
      have hbw := HB3.out
      clear HB3 HARG HM HX BX HF
      generalize ((w.alloc (Obj.cells #[Value.bool nx, Value.slice X xs.length c] 24)).alloc (Obj.cells #[Value.bool nx, Value.slice X xs.length c] 24)) = W0 at *
      go_wp2_with fail
      refine (parse_any s l _ HS.out (by omega)).mono ?_
      rintro e w2 ⟨v1, rfl, hi, hbel⟩
      obtain ⟨b1, A1, l1, c1, rfl, hi⟩ := hi.form
      have hbw' := Below.trans hbw (Below.mono hbel (Below.size hbw))
      have hms' := Ms.below hbel hms
      have hvs' := Vs.cons (Vs.below hbel hvs) (IntE.of hi (k := 400) (pz_len l) (by omega))
      clear hbw hms hvs hbel hi
      have hbn : Below w2.heap.size w2 (w2.alloc (Obj.cells #[Value.bool b1, Value.slice A1 l1 c1] 24)) := (Below.refl _ _).alloc (Nat.le_refl _) _
      have hms := Ms.new hms' b1 A1 l1 c1
      have hvs := Vs.below hbn hvs'
      have hbw := Below.trans hbw' (Below.mono hbn (Below.size hbw'))
      clear hms' hvs' hbw' hbn
      go_wp2_with fail
      generalize hWq : (w2.alloc (Obj.cells #[Value.bool b1, Value.slice A1 l1 c1] 24)) = V1 at *
      generalize hgq : w2.heap.size = g5 at *
      clear hWq hgq
      refine (rparse_any s l _ HS.out (by omega)).mono ?_
      rintro e w4 ⟨v2, rfl, hi, hbel⟩
      obtain ⟨b2, A2, l2, c2, rfl, hi⟩ := hi.form
      have hbw' := Below.trans hbw (Below.mono hbel (Below.size hbw))
      have hms' := Ms.below hbel hms
      have hvs' := Vs.cons (Vs.below hbel hvs) (IntE.of hi (k := 400) (pz_len l) (by omega))
      clear hbw hms hvs hbel hi
      have hbn : Below w4.heap.size w4 (w4.alloc (Obj.cells #[Value.bool b2, Value.slice A2 l2 c2] 24)) := (Below.refl _ _).alloc (Nat.le_refl _) _
      have hms := Ms.new hms' b2 A2 l2 c2
      have hvs := Vs.below hbn hvs'
      have hbw := Below.trans hbw' (Below.mono hbn (Below.size hbw'))
      clear hms' hvs' hbw' hbn
      obtain ⟨k0a, k0b⟩ := Ms.hd (Ms.tl (Ms.tl hms))
      go_wp2_with fail
      generalize hWq : (w4.alloc (Obj.cells #[Value.bool b2, Value.slice A2 l2 c2] 24)) = V2 at *
      generalize hgq : w4.heap.size = g7 at *
      clear hWq hgq
      refine (format_any nx X c xs _ (HIX.out.below hbw)).mono ?_
      rw [HNN.out]
      rintro e w6 ⟨rfl, hbel⟩
      clear k0a k0b
      have hbw' := Below.trans hbw (Below.mono hbel (Below.size hbw))
      have hms' := Ms.below hbel hms
      have hvs' := Vs.below hbel hvs
      clear hbw hms hvs hbel
      have hbw := hbw'
      have hms := hms'
      have hvs := hvs'
      clear hbw' hms' hvs'
      go_wp2_with fail
      refine (parse_any (str (txt nx N)) (txt nx N) _ ⟨rfl, txt_lt nx N⟩ (by have := HTL.out; omega)).mono ?_
      unfold PsOut
      rw [HPZ.out, HPE.out]
      rintro e w7 ⟨v3, rfl, hi, hbel⟩
      obtain ⟨b3, A3, l3, c3, rfl, hi⟩ := hi.form
      have hbw' := Below.trans hbw (Below.mono hbel (Below.size hbw))
      have hms' := Ms.below hbel hms
      have hvs' := Vs.cons (Vs.below hbel hvs) (IntE.of hi (k := 6) (hwx) (by omega))
      clear hbw hms hvs hbel hi
      have hbn : Below w7.heap.size w7 (w7.alloc (Obj.cells #[Value.bool b3, Value.slice A3 l3 c3] 24)) := (Below.refl _ _).alloc (Nat.le_refl _) _
      have hms := Ms.new hms' b3 A3 l3 c3
      have hvs := Vs.below hbn hvs'
      have hbw := Below.trans hbw' (Below.mono hbn (Below.size hbw'))
      clear hms' hvs' hbw' hbn
      have hqq : (pe l == pe l) = true := by simp
      generalize pe l = qe at *
      go_wp2_with fail
      generalize hWq : (w7.alloc (Obj.cells #[Value.bool b3, Value.slice A3 l3 c3] 24)) = V3 at *
      generalize hgq : w7.heap.size = g10 at *
      clear hWq hgq
      have hvs' := Vs.draw hvs
      have hms' := Ms.draw hms
      have hbw' := Below.drew hbw
      clear hvs hms hbw
      have hvs := hvs'
      have hms := hms'
      have hbw := hbw'
      clear hvs' hms' hbw'
      go_region_held3 (fun w' => (w'.cell? ⟨w.heap.size, 0, none⟩ = some (.bool nx) ∧ w'.cell? ⟨w.heap.size, 1, none⟩ = some (.slice X xs.length c) ∧ w'.cell? ⟨g5, 0, none⟩ = some (.bool b1) ∧ w'.cell? ⟨g5, 1, none⟩ = some (.slice A1 l1 c1) ∧ w'.cell? ⟨g7, 0, none⟩ = some (.bool b2) ∧ w'.cell? ⟨g7, 1, none⟩ = some (.slice A2 l2 c2) ∧ w'.cell? ⟨g10, 0, none⟩ = some (.bool b3) ∧ w'.cell? ⟨g10, 1, none⟩ = some (.slice A3 l3 c3)) ∧ Ms w' [(g10, b3, A3, l3, c3), (g7, b2, A2, l2, c2), (g5, b1, A1, l1, c1), (w.heap.size, nx, X, xs.length, c)]) (exact ⟨⟨(Ms.hd (Ms.tl (Ms.tl (Ms.tl hms)))).1, (Ms.hd (Ms.tl (Ms.tl (Ms.tl hms)))).2, (Ms.hd (Ms.tl (Ms.tl hms))).1, (Ms.hd (Ms.tl (Ms.tl hms))).2, (Ms.hd (Ms.tl hms)).1, (Ms.hd (Ms.tl hms)).2, (Ms.hd hms).1, (Ms.hd hms).2⟩, hms⟩)
        (first
        | (go_at_call 43; ((with_reducible refine (rformat_any nx X c xs _ ?_).mono ?_)); (exact HIX.out.below hbw); rw [HNN.out]; rintro e w' ⟨rfl, hbel⟩; have hbw' := Below.trans hbw (Below.mono hbel (Below.size hbw)); clear hbw; have hbw := hbw'; clear hbw'; have hms' := Ms.below hbel hms; clear hms; have hms := hms'; clear hms'; have hvs' := Vs.below hbel hvs; clear hvs; have hvs := hvs'; clear hvs' hbel)
        | (go_at_call 24; ((with_reducible refine' (Same_v ?_ ?_ ?_ ?_).mono ?_)); (any_goals (first | exact Vs.hd hvs | exact Vs.hd (Vs.tl hvs) | exact Vs.hd (Vs.tl (Vs.tl hvs)) | exact Vs.hd (Vs.tl (Vs.tl (Vs.tl hvs))) | exact Vs.hd (Vs.tl (Vs.tl (Vs.tl (Vs.tl hvs)))))); (any_goals (first | omega | rfl)); rintro e w' ⟨rfl, hbel⟩; have hbw' := Below.trans hbw (Below.mono hbel (Below.size hbw)); clear hbw; have hbw := hbw'; clear hbw'; have hms' := Ms.below hbel hms; clear hms; have hms := hms'; clear hms'; have hvs' := Vs.below hbel hvs; clear hvs; have hvs := hvs'; clear hvs' hbel)
        | (go_at_call 26; ((with_reducible refine' (Normal_v ?_ ?_).mono ?_)); (any_goals (first | exact Vs.hd hvs | exact Vs.hd (Vs.tl hvs) | exact Vs.hd (Vs.tl (Vs.tl hvs)) | exact Vs.hd (Vs.tl (Vs.tl (Vs.tl hvs))) | exact Vs.hd (Vs.tl (Vs.tl (Vs.tl (Vs.tl hvs)))))); (any_goals omega); rintro e w' ⟨_, _, _, _, rfl, hv, hbel⟩; have hbw' := Below.trans hbw (Below.mono hbel (Below.size hbw)); clear hbw; have hbw := hbw'; clear hbw'; have hms' := Ms.below hbel hms; clear hms; have hms := hms'; clear hms'; have hvs' := Vs.cons (Vs.below hbel hvs) hv; clear hvs; have hvs := hvs'; clear hvs' hbel hv)
        | (go_at_call 20; ((with_reducible refine (awake_any _).mono ?_)); rintro e w' ⟨rfl, hbel⟩; have hbw' := Below.trans hbw (Below.mono hbel (Below.size hbw)); clear hbw; have hbw := hbw'; clear hbw'; have hms' := Ms.below hbel hms; clear hms; have hms := hms'; clear hms'; have hvs' := Vs.below hbel hvs; clear hvs; have hvs := hvs'; clear hvs' hbel))
      all_goals go_wp2
      all_goals go_ret
      all_goals exact ⟨rfl, hbw⟩
    · by_cases h2 : s.size ≤ 400
      · go_enter Try.func6, Try.ntmps6
        go_wp2_with fail
        refine (short_any (w.heap.size + 1) [xs.length] _ HARG.out (by simp) (by simp; omega)).mono ?_
        rw [HF.out]
        rintro e w1 ⟨rfl, rfl⟩
        go_wp2_with fail
        refine (awake_any _).mono ?_
        rintro e w2 ⟨rfl, hb⟩
        have HB := Lib.hid (HB3.out.trans (hb.mono HB3.out.size))
        clear hb
        go_wp2
        go_ret
        exact ⟨rfl, HB.out⟩
      · by_cases h3 : s.size ≤ 500
        · have hll : l.length ≤ 500 := by have := HLS.out; omega
          go_enter Try.func6, Try.ntmps6
          go_wp2_with fail
          refine (short_any (w.heap.size + 1) [xs.length] _ HARG.out (by simp) (by simp; omega)).mono ?_
          rw [HF.out]
          rintro e w1 ⟨rfl, rfl⟩
          have hms := HM.out
          have hvs := Vs.cons (Vs.nil_ _) (IntE.raw (HIX.out.below HB3.out) hl6)
          have hbw := HB3.out
          clear HB3 HARG HM HX BX HF
          generalize ((w.alloc (Obj.cells #[Value.bool nx, Value.slice X xs.length c] 24)).alloc (Obj.cells #[Value.bool nx, Value.slice X xs.length c] 24)) = W0 at *
          go_wp2_with fail
          refine (parse_any s l _ HS.out (by omega)).mono ?_
          rintro e w2 ⟨v1, rfl, hi, hbel⟩
          obtain ⟨b1, A1, l1, c1, rfl, hi⟩ := hi.form
          have hbw' := Below.trans hbw (Below.mono hbel (Below.size hbw))
          have hms' := Ms.below hbel hms
          have hvs' := Vs.cons (Vs.below hbel hvs) (IntE.of hi (k := 400) (pz_len l) (by omega))
          clear hbw hms hvs hbel hi
          have hbn : Below w2.heap.size w2 (w2.alloc (Obj.cells #[Value.bool b1, Value.slice A1 l1 c1] 24)) := (Below.refl _ _).alloc (Nat.le_refl _) _
          have hms := Ms.new hms' b1 A1 l1 c1
          have hvs := Vs.below hbn hvs'
          have hbw := Below.trans hbw' (Below.mono hbn (Below.size hbw'))
          clear hms' hvs' hbw' hbn
          go_wp2_with fail
          generalize hWq : (w2.alloc (Obj.cells #[Value.bool b1, Value.slice A1 l1 c1] 24)) = V1 at *
          generalize hgq : w2.heap.size = g5 at *
          clear hWq hgq
          refine (rparse_any s l _ HS.out (by omega)).mono ?_
          rintro e w4 ⟨v2, rfl, hi, hbel⟩
          obtain ⟨b2, A2, l2, c2, rfl, hi⟩ := hi.form
          have hbw' := Below.trans hbw (Below.mono hbel (Below.size hbw))
          have hms' := Ms.below hbel hms
          have hvs' := Vs.cons (Vs.below hbel hvs) (IntE.of hi (k := 400) (pz_len l) (by omega))
          clear hbw hms hvs hbel hi
          have hbn : Below w4.heap.size w4 (w4.alloc (Obj.cells #[Value.bool b2, Value.slice A2 l2 c2] 24)) := (Below.refl _ _).alloc (Nat.le_refl _) _
          have hms := Ms.new hms' b2 A2 l2 c2
          have hvs := Vs.below hbn hvs'
          have hbw := Below.trans hbw' (Below.mono hbn (Below.size hbw'))
          clear hms' hvs' hbw' hbn
          obtain ⟨k0a, k0b⟩ := Ms.hd (Ms.tl (Ms.tl hms))
          go_wp2_with fail
          generalize hWq : (w4.alloc (Obj.cells #[Value.bool b2, Value.slice A2 l2 c2] 24)) = V2 at *
          generalize hgq : w4.heap.size = g7 at *
          clear hWq hgq
          refine (format_any nx X c xs _ (HIX.out.below hbw)).mono ?_
          rw [HNN.out]
          rintro e w6 ⟨rfl, hbel⟩
          clear k0a k0b
          have hbw' := Below.trans hbw (Below.mono hbel (Below.size hbw))
          have hms' := Ms.below hbel hms
          have hvs' := Vs.below hbel hvs
          clear hbw hms hvs hbel
          have hbw := hbw'
          have hms := hms'
          have hvs := hvs'
          clear hbw' hms' hvs'
          go_wp2_with fail
          refine (parse_any (str (txt nx N)) (txt nx N) _ ⟨rfl, txt_lt nx N⟩ (by have := HTL.out; omega)).mono ?_
          unfold PsOut
          rw [HPZ.out, HPE.out]
          rintro e w7 ⟨v3, rfl, hi, hbel⟩
          obtain ⟨b3, A3, l3, c3, rfl, hi⟩ := hi.form
          have hbw' := Below.trans hbw (Below.mono hbel (Below.size hbw))
          have hms' := Ms.below hbel hms
          have hvs' := Vs.cons (Vs.below hbel hvs) (IntE.of hi (k := 6) (hwx) (by omega))
          clear hbw hms hvs hbel hi
          have hbn : Below w7.heap.size w7 (w7.alloc (Obj.cells #[Value.bool b3, Value.slice A3 l3 c3] 24)) := (Below.refl _ _).alloc (Nat.le_refl _) _
          have hms := Ms.new hms' b3 A3 l3 c3
          have hvs := Vs.below hbn hvs'
          have hbw := Below.trans hbw' (Below.mono hbn (Below.size hbw'))
          clear hms' hvs' hbw' hbn
          have hqq : (pe l == pe l) = true := by simp
          generalize pe l = qe at *
          go_wp2_with fail
          generalize hWq : (w7.alloc (Obj.cells #[Value.bool b3, Value.slice A3 l3 c3] 24)) = V3 at *
          generalize hgq : w7.heap.size = g10 at *
          clear hWq hgq
          have hvs' := Vs.draw hvs
          have hms' := Ms.draw hms
          have hbw' := Below.drew hbw
          clear hvs hms hbw
          have hvs := hvs'
          have hms := hms'
          have hbw := hbw'
          clear hvs' hms' hbw'
          go_region_held3 (fun w' => (w'.cell? ⟨w.heap.size, 0, none⟩ = some (.bool nx) ∧ w'.cell? ⟨w.heap.size, 1, none⟩ = some (.slice X xs.length c) ∧ w'.cell? ⟨g5, 0, none⟩ = some (.bool b1) ∧ w'.cell? ⟨g5, 1, none⟩ = some (.slice A1 l1 c1) ∧ w'.cell? ⟨g7, 0, none⟩ = some (.bool b2) ∧ w'.cell? ⟨g7, 1, none⟩ = some (.slice A2 l2 c2) ∧ w'.cell? ⟨g10, 0, none⟩ = some (.bool b3) ∧ w'.cell? ⟨g10, 1, none⟩ = some (.slice A3 l3 c3)) ∧ Ms w' [(g10, b3, A3, l3, c3), (g7, b2, A2, l2, c2), (g5, b1, A1, l1, c1), (w.heap.size, nx, X, xs.length, c)]) (exact ⟨⟨(Ms.hd (Ms.tl (Ms.tl (Ms.tl hms)))).1, (Ms.hd (Ms.tl (Ms.tl (Ms.tl hms)))).2, (Ms.hd (Ms.tl (Ms.tl hms))).1, (Ms.hd (Ms.tl (Ms.tl hms))).2, (Ms.hd (Ms.tl hms)).1, (Ms.hd (Ms.tl hms)).2, (Ms.hd hms).1, (Ms.hd hms).2⟩, hms⟩)
            (first
            | (go_at_call 43; ((with_reducible refine (rformat_any nx X c xs _ ?_).mono ?_)); (exact HIX.out.below hbw); rw [HNN.out]; rintro e w' ⟨rfl, hbel⟩; have hbw' := Below.trans hbw (Below.mono hbel (Below.size hbw)); clear hbw; have hbw := hbw'; clear hbw'; have hms' := Ms.below hbel hms; clear hms; have hms := hms'; clear hms'; have hvs' := Vs.below hbel hvs; clear hvs; have hvs := hvs'; clear hvs' hbel)
            | (go_at_call 24; ((with_reducible refine' (Same_v ?_ ?_ ?_ ?_).mono ?_)); (any_goals (first | exact Vs.hd hvs | exact Vs.hd (Vs.tl hvs) | exact Vs.hd (Vs.tl (Vs.tl hvs)) | exact Vs.hd (Vs.tl (Vs.tl (Vs.tl hvs))) | exact Vs.hd (Vs.tl (Vs.tl (Vs.tl (Vs.tl hvs)))))); (any_goals (first | omega | rfl)); rintro e w' ⟨rfl, hbel⟩; have hbw' := Below.trans hbw (Below.mono hbel (Below.size hbw)); clear hbw; have hbw := hbw'; clear hbw'; have hms' := Ms.below hbel hms; clear hms; have hms := hms'; clear hms'; have hvs' := Vs.below hbel hvs; clear hvs; have hvs := hvs'; clear hvs' hbel)
            | (go_at_call 26; ((with_reducible refine' (Normal_v ?_ ?_).mono ?_)); (any_goals (first | exact Vs.hd hvs | exact Vs.hd (Vs.tl hvs) | exact Vs.hd (Vs.tl (Vs.tl hvs)) | exact Vs.hd (Vs.tl (Vs.tl (Vs.tl hvs))) | exact Vs.hd (Vs.tl (Vs.tl (Vs.tl (Vs.tl hvs)))))); (any_goals omega); rintro e w' ⟨_, _, _, _, rfl, hv, hbel⟩; have hbw' := Below.trans hbw (Below.mono hbel (Below.size hbw)); clear hbw; have hbw := hbw'; clear hbw'; have hms' := Ms.below hbel hms; clear hms; have hms := hms'; clear hms'; have hvs' := Vs.cons (Vs.below hbel hvs) hv; clear hvs; have hvs := hvs'; clear hvs' hbel hv)
            | (go_at_call 20; ((with_reducible refine (awake_any _).mono ?_)); rintro e w' ⟨rfl, hbel⟩; have hbw' := Below.trans hbw (Below.mono hbel (Below.size hbw)); clear hbw; have hbw := hbw'; clear hbw'; have hms' := Ms.below hbel hms; clear hms; have hms := hms'; clear hms'; have hvs' := Vs.below hbel hvs; clear hvs; have hvs := hvs'; clear hvs' hbel))
          all_goals go_wp2
          all_goals go_ret
          all_goals exact ⟨rfl, hbw⟩
        · go_enter Try.func6, Try.ntmps6
          go_wp2_with fail
          refine (short_any (w.heap.size + 1) [xs.length] _ HARG.out (by simp) (by simp; omega)).mono ?_
          rw [HF.out]
          rintro e w1 ⟨rfl, rfl⟩
          go_wp2_with fail
          refine (awake_any _).mono ?_
          rintro e w2 ⟨rfl, hb⟩
          have HB := Lib.hid (HB3.out.trans (hb.mono HB3.out.size))
          clear hb
          go_wp2
          go_ret
          exact ⟨rfl, HB.out⟩
end Go.Proofs.Ytcbdnnboddahkaa.Tx
