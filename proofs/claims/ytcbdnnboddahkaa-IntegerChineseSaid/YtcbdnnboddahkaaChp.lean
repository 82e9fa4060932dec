/-
  WALKS: the residue that stands for all residues of a list, as the program finds it.
-/
import Derived.Test.YtcbdnnboddahkaaChj
namespace Go.Proofs.Ytcbdnnboddahkaa.Cn
open Go.RowKit Ws
set_option linter.unusedVariables false
set_option maxRecDepth 100000
/-- two numbers that lie in a block of their own -/
structure Pt (w : World) (g : Nat) (r m : Int) : Prop where
  c0 : w.cell? ⟨g, 0, none⟩ = some (.int .i64 r)
  c1 : w.cell? ⟨g, 1, none⟩ = some (.int .i64 m)
  f0 : w.frozen? ⟨g, 0, none⟩ = false
  f1 : w.frozen? ⟨g, 1, none⟩ = false
theorem Pt.below {B : Nat} {w w' : World} {g : Nat} {r m : Int} (h : Pt w g r m) (hb : Below B w w') (hg : g < B) : Pt w' g r m :=
  ⟨(hb.cell (p := ⟨g, 0, none⟩) hg).trans h.c0, (hb.cell (p := ⟨g, 1, none⟩) hg).trans h.c1, (hb.frozen (p := ⟨g, 0, none⟩) hg).trans h.f0, (hb.frozen (p := ⟨g, 1, none⟩) hg).trans h.f1⟩
theorem Pt.new (w : World) (r m : Int) : Pt (w.alloc (.cells #[.int .i64 r, .int .i64 m] 66)) w.heap.size r m :=
  ⟨by simp [go_sem], by simp [go_sem], by simp [go_sem], by simp [go_sem]⟩
theorem Pt.set_ {w : World} {g : Nat} {r m : Int} (h : Pt w g r m) (r' m' : Int) : Pt ((w.setCell ⟨g, 0, none⟩ (.int .i64 r')).setCell ⟨g, 1, none⟩ (.int .i64 m')) g r' m' :=
  ⟨by simp [go_sem, h.c0], by simp [go_sem, h.c1], by simp [go_sem, h.f0], by simp [go_sem, h.f1]⟩
theorem Pt.other {w : World} {g : Nat} {r m : Int} {p : Addr} (h : Pt w g r m) (hp : p.block ≠ g) (u : Value) : Pt (w.setCell p u) g r m :=
  ⟨by rw [World.cell?_setCell_other _ _ _ _ (fun e => hp (by rw [e]))]; exact h.c0, by rw [World.cell?_setCell_other _ _ _ _ (fun e => hp (by rw [e]))]; exact h.c1, by simpa [go_sem] using h.f0, by simpa [go_sem] using h.f1⟩
theorem Pt.lt {w : World} {g : Nat} {r m : Int} (h : Pt w g r m) : g < w.heap.size := World.block_lt_of_cell? w _ h.c0
theorem Pt.drewN {w : World} {g : Nat} {r m : Int} (h : Pt w g r m) (n : Nat) : Pt (w.drewN n) g r m := h.below (below_drawn (Below.refl _ _) n) h.lt
def ChOut (ps : List (Int × Int)) (e : Ending) : Prop := ∃ R M q, CO ps R M q ∧ e = .returned (.tuple #[.agg #[.int .i64 R, .int .i64 M], .int .i64 q])
theorem bad_iff {ps : List (Int × Int)} : ps.any (fun q => !modB q.2) = true ↔ bad ps := by
  rw [List.any_eq_true]
  constructor
  · rintro ⟨q, hq, h⟩
    obtain ⟨j, hj, rfl⟩ := List.getElem_of_mem hq
    refine ⟨j, hj, ?_⟩
    rw [List.getD_eq_getElem?_getD, List.getElem?_eq_getElem hj]
    intro h1
    have : modB (ps[j]).2 = true := by unfold modB; exact decide_eq_true h1
    rw [this] at h; cases h
  · rintro ⟨j, hj, h⟩
    refine ⟨_, List.getElem_mem hj, ?_⟩
    rw [List.getD_eq_getElem?_getD, List.getElem?_eq_getElem hj] at h
    cases hb : modB (ps[j]).2 with
    | false => rfl
    | true => exact absurd (of_decide_eq_true hb) h
theorem all_mod {ps : List (Int × Int)} (h : ¬ bad ps) : ∀ j, j < ps.length → modP (ps.getD j (0, 0)).2 := fun j hj => Classical.byContradiction fun hn => h ⟨j, hj, hn⟩
theorem clash_take {ps : List (Int × Int)} {i : Nat} {q : Int × Int} (hi : i < ps.length) (hq : ps.getD i (0, 0) = q) : (ps.take i).any (fun p => clB p q) = true ↔ ∃ j, j < i ∧ clP q (ps.getD j (0, 0)) := by
  rw [List.any_eq_true]
  constructor
  · rintro ⟨p, hp, h⟩
    obtain ⟨j, hj, rfl⟩ := List.getElem_of_mem hp
    rw [List.length_take] at hj
    refine ⟨j, by omega, clP_symm (clB_iff.1 ?_)⟩
    rw [List.getD_eq_getElem?_getD, List.getElem?_eq_getElem (by omega)]
    simpa using h
  · rintro ⟨j, hj, h⟩
    refine ⟨ps.getD j (0, 0), ?_, clB_iff.2 (clP_symm h)⟩
    rw [List.getD_eq_getElem?_getD, List.getElem?_eq_getElem (by omega)]
    exact List.mem_take_iff_getElem.2 ⟨j, by omega, rfl⟩
theorem test_cl (r m : Int) (g : Nat) (ps : List (Int × Int)) (w : World) (hp : Pt w g r m) (hm : modP m) (hall : ∀ q ∈ ps, modP q.2) : Test_ (fun p => clB p (r, m)) 125 #[.pointer (some ⟨g, 0, none⟩)] ps w := by
  intro r' m' w1 hmem hb
  have hg := hp.lt
  obtain ⟨d0, d1, d2, d3⟩ := hp.below hb hg
  have hm' := hall _ hmem
  obtain ⟨m1, m2⟩ := hm
  obtain ⟨m3, m4⟩ := hm'
  show Calls Try.prog 125 #[.agg #[.int .i64 r', .int .i64 m'], .pointer (some ⟨g, 0, none⟩)] w1 _
  have hsz : g < w1.heap.size := Nat.lt_of_lt_of_le hg hb.size
  clear hb
  go_enter Try.func125, Try.ntmps125
  go_wp2_with fail
  refine (contra_any r' m' r m _ m3 m4 m1 m2).mono ?_
  rintro e w2 ⟨rfl, hb2⟩
  have HB := Lib.hid (((Below.refl w1.heap.size w1).alloc (Nat.le_refl _) (Obj.cells #[Value.int IntKind.i64 r', Value.int IntKind.i64 m'] 66)).trans (hb2.mono (by simp)))
  clear hb2
  go_wp2
  go_ret
  exact ⟨rfl, HB.out⟩
theorem contains_n (p : Int × Int → Bool) (g : Nat) (lb : Array Value) (eg : ∀ args w, (callFunc g args).run Try.prog w = .ok (.enter g args) w) (A : Option Addr) (c n : Nat) (ps : List (Int × Int)) (w : World) (hA : Rs w A ps) (hn : ps.length = n) (hc : n ≤ c) (hcm : c ≤ 9223372036854775807) (hp : Test_ p g lb ps w) :
    Calls Try.prog 123 #[.slice A n c, .func (.func g) #[] lb] w fun e w' => e = .returned (.bool (ps.any p)) ∧ Below w.heap.size w w' := by
  subst hn; exact contains_any p g lb eg A c ps w hA hc hcm hp
theorem eg1 : ∀ args w, (callFunc 124 args).run Try.prog w = .ok (.enter 124 args) w := Go.Proofs.enters_of Try.func124 (by kernel_rfl) rfl
theorem eg2 : ∀ args w, (callFunc 125 args).run Try.prog w = .ok (.enter 125 args) w := Go.Proofs.enters_of Try.func125 (by kernel_rfl) rfl
theorem stored {w0 w : World} {g : Nat} (hb : Below w0.heap.size w0 w) (hg : w0.heap.size ≤ g) (r m : Int) : Below w0.heap.size w0 ((w.setCell ⟨g, 0, none⟩ (.int .i64 r)).setCell ⟨g, 1, none⟩ (.int .i64 m)) :=
  (hb.setCell (p := ⟨g, 0, none⟩) hg _).setCell (p := ⟨g, 1, none⟩) hg _
set_option maxHeartbeats 1000000 in
theorem chin_any (A : Option Addr) (c : Nat) (ps : List (Int × Int)) (w : World) (hA : Rs w A ps) (hc : ps.length ≤ c) (hcm : c ≤ 9223372036854775807) :
    Calls Try.prog 54 #[.slice A ps.length c] w fun e w' => ChOut ps e ∧ Below w.heap.size w w' := by
  have hmf : ∀ (fn : Fn) (first cap : Array Value) (w : World), (Instr.makeFunc fn first cap).run Try.prog w = .ok (.func fn first cap) w := fun _ _ _ _ => rfl
  have hB : Below w.heap.size w (w.alloc (Obj.cells #[Value.int IntKind.i64 0, Value.int IntKind.i64 0] 66)) := by go_grown
  have hP := Pt.new w 0 0
  have hZ : w.heap.size < (w.alloc (Obj.cells #[Value.int IntKind.i64 0, Value.int IntKind.i64 0] 66)).heap.size := by simp
  have HA := Lib.hid hA
  have HB := Lib.hid hB
  have HP := Lib.hid hP
  have HZ := Lib.hid hZ
  clear hA hB hP hZ
  by_cases hlen : 20 < ps.length
  · go_enter Try.func54, Try.ntmps54
    go_wp2_with fail
    generalize (w.alloc (Obj.cells #[Value.int IntKind.i64 0, Value.int IntKind.i64 0] 66)) = W0 at *
    obtain ⟨p0, p1, p2, p3⟩ := HP.out
    go_wp2
    refine bodyPost_ret (v := .tuple #[.agg #[.int .i64 0, .int .i64 0], .int .i64 8]) (by simp [results, Try.results54, go_sem, p0, p1]) rfl ?_
    exact ⟨⟨0, 0, 8, .inl ⟨hlen, rfl, rfl, rfl⟩, rfl⟩, HB.out⟩
  · have hps : ps.length ≤ 20 := by omega
    cases hbd : ps.any (fun q => !modB q.2) with
    | true =>
      have hbad := bad_iff.1 hbd
      have HBD := Lib.hid hbd
      have HBAD := Lib.hid hbad
      clear hbd hbad
      go_enter Try.func54, Try.ntmps54
      go_wp2_with fail
      generalize (w.alloc (Obj.cells #[Value.int IntKind.i64 0, Value.int IntKind.i64 0] 66)) = W0 at *
      refine (contains_any _ _ _ eg1 A c ps _ (HA.out.below HB.out) hc hcm (test_mod ps _)).mono ?_
      rw [HBD.out]
      rintro e w1 ⟨rfl, hb1⟩
      obtain ⟨p0, p1, p2, p3⟩ := HP.out.below hb1 HZ.out
      have HB1 := Lib.hid (HB.out.trans (hb1.mono HB.out.size))
      clear hb1
      go_wp2
      refine bodyPost_ret (v := .tuple #[.agg #[.int .i64 0, .int .i64 0], .int .i64 2]) (by simp [results, Try.results54, go_sem, p0, p1]) rfl ?_
      exact ⟨⟨0, 0, 2, .inr ⟨hlen, .inl ⟨HBAD.out, rfl, rfl, rfl⟩⟩, rfl⟩, stored HB1.out (Nat.le_refl _) 0 0⟩
    | false =>
      have hnb : ¬ bad ps := fun h => by rw [bad_iff.2 h] at hbd; cases hbd
      have hall := all_mod hnb
      have HBD := Lib.hid hbd
      have HNB := Lib.hid hnb
      have HALL := Lib.hid hall
      clear hbd hnb hall
      go_enter Try.func54, Try.ntmps54
      go_wp2_with fail
      generalize (w.alloc (Obj.cells #[Value.int IntKind.i64 0, Value.int IntKind.i64 0] 66)) = W0 at *
      refine (contains_any _ _ _ eg1 A c ps _ (HA.out.below HB.out) hc hcm (test_mod ps _)).mono ?_
      rw [HBD.out]
      rintro e w1 ⟨rfl, hb1⟩
      have HP1 := Lib.hid (HP.out.below hb1 HZ.out)
      have HB1 := Lib.hid (HB.out.trans (hb1.mono HB.out.size))
      clear hb1 HP HB HZ HBD
      go_wp2
      go_loopg [4, 5, 18] ps.length (fun gg _ _ t18 wr => ∃ kk : Nat, (kk ≤ ps.length ∧ ps.length - kk ≤ gg ∧ (∀ i j, j < i → i < kk → ¬ clP (ps.getD i (0, 0)) (ps.getD j (0, 0))) ∧ Pt wr w.heap.size 0 0 ∧ Below w.heap.size w wr) ∧ t18 = .int .i64 kk)
      case atStart => exact ⟨0, ⟨Nat.zero_le _, by omega, fun i j h1 h2 => by omega, HP1.out, HB1.out⟩, rfl⟩
      case round =>
        obtain ⟨kk, ⟨hk, hg, hno, hpt, hbel⟩, rfl⟩ := hrel
        have HNO := Lib.hid hno
        have HPT := Lib.hid hpt
        have HBW := Lib.hid hbel
        clear hno hpt hbel HP1 HB1
        by_cases hlt : kk < ps.length
        · obtain ⟨b, o, r, m, rfl, EQ, hc1, hc2, hbb⟩ := (HA.out.below HBW.out).at_ hlt
          have hmp : modP m := by have := HALL.out kk hlt; rw [EQ.out] at this; exact this
          have htl : (ps.take kk).length = kk := by simp; omega
          have hnew := Pt.new wr r m
          have hB3 : Below wr.heap.size wr (wr.alloc (Obj.cells #[Value.int IntKind.i64 r, Value.int IntKind.i64 m] 66)) := by go_grown
          have HNEW := Lib.hid hnew
          have HTL := Lib.hid htl
          have HMP := Lib.hid hmp
          have HB3 := Lib.hid (HBW.out.trans (hB3.mono HBW.out.size))
          have HPT3 := Lib.hid (HPT.out.below hB3 HPT.out.lt)
          have HTST : Hid (∀ q ∈ ps.take kk, modP q.2) := Lib.hid (fun q hq => by
            obtain ⟨j, hj, rfl⟩ := List.getElem_of_mem (List.mem_of_mem_take hq)
            have := HALL.out j hj
            rw [List.getD_eq_getElem?_getD, List.getElem?_eq_getElem hj] at this
            exact this)
          clear hnew htl hmp hB3
          cases hcl : (ps.take kk).any (fun p => clB p (r, m)) with
          | true =>
            have HCL := Lib.hid hcl
            have HCC : Hid (clash ps) := Lib.hid (by
              obtain ⟨j, hj, h⟩ := (clash_take hlt EQ.out).1 HCL.out
              exact ⟨kk, j, hj, hlt, by rw [EQ.out]; exact h⟩)
            clear hcl
            go_wp2_with fail
            refine (contains_n _ _ _ eg2 (some ⟨b, o, none⟩) c kk (ps.take kk) _ ((HA.out.below HB3.out).take_ kk) HTL.out (by omega) hcm (test_cl r m wr.heap.size _ _ HNEW.out HMP.out HTST.out)).mono ?_
            rw [HCL.out]
            rintro e w4 ⟨rfl, hb4⟩
            obtain ⟨p0, p1, p2, p3⟩ := HPT3.out.below hb4 HPT3.out.lt
            have HB4 := Lib.hid (HB3.out.trans (hb4.mono HB3.out.size))
            clear hb4
            go_wp2
            refine bodyPost_ret (v := .tuple #[.agg #[.int .i64 0, .int .i64 0], .int .i64 12]) (by simp [results, Try.results54, go_sem, p0, p1]) rfl ?_
            exact ⟨⟨0, 0, 12, .inr ⟨hlen, .inr ⟨HNB.out, .inl ⟨HCC.out, rfl, rfl, rfl⟩⟩⟩, rfl⟩, stored HB4.out (Nat.le_refl _) 0 0⟩
          | false =>
            have HCL := Lib.hid hcl
            have HNN : Hid (∀ i j, j < i → i < kk + 1 → ¬ clP (ps.getD i (0, 0)) (ps.getD j (0, 0))) := Lib.hid (fun i j h1 h2 h3 => by
              rcases Nat.lt_or_ge i kk with h | h
              · exact HNO.out i j h1 h h3
              · have : i = kk := by omega
                subst this
                rw [EQ.out] at h3
                have := (clash_take hlt EQ.out).2 ⟨j, h1, h3⟩
                rw [HCL.out] at this; cases this)
            clear hcl
            go_wp2_with fail
            refine (contains_n _ _ _ eg2 (some ⟨b, o, none⟩) c kk (ps.take kk) _ ((HA.out.below HB3.out).take_ kk) HTL.out (by omega) hcm (test_cl r m wr.heap.size _ _ HNEW.out HMP.out HTST.out)).mono ?_
            rw [HCL.out]
            rintro e w4 ⟨rfl, hb4⟩
            have HPT4 := Lib.hid (HPT3.out.below hb4 HPT3.out.lt)
            have HB4 := Lib.hid (HB3.out.trans (hb4.mono HB3.out.size))
            clear hb4
            go_wp2
            go_roundg (ps.length - (kk + 1))
            case rel => exact ⟨kk + 1, ⟨by omega, by omega, HNN.out, HPT4.out, HB4.out⟩, by go_num⟩
            case measure => omega
        · have hkl : kk = ps.length := by omega
          subst hkl
          have HNC : Hid (¬ clash ps) := Lib.hid (fun ⟨i, j, h1, h2, h3⟩ => HNO.out i j h1 h2 h3)
          have hnew := Pt.new wr 0 1
          have hB3 : Below wr.heap.size wr (wr.alloc (Obj.cells #[Value.int IntKind.i64 0, Value.int IntKind.i64 1] 66)) := by go_grown
          have HNEW := Lib.hid hnew
          have HB3 := Lib.hid (HBW.out.trans (hB3.mono HBW.out.size))
          have HPT3 := Lib.hid (HPT.out.below hB3 HPT.out.lt)
          have hgg := HPT.out.lt
          clear hnew hB3 HNO hlt HPT HBW
          go_wp2
          generalize (wr.alloc (Obj.cells #[Value.int IntKind.i64 0, Value.int IntKind.i64 1] 66)) = W6 at *
          generalize wr.heap.size = g6 at *
          go_loopg [8, 33] ps.length (fun gg _ t33 wi => ∃ (kk : Nat) (R M : Int), (kk ≤ ps.length ∧ ps.length - kk ≤ gg ∧ Jn ps kk R M ∧ Pt wi w.heap.size 0 0 ∧ Pt wi g6 R M ∧ Below w.heap.size w wi) ∧ t33 = .int .i64 kk)
          case atStart => exact ⟨0, 0, 1, ⟨Nat.zero_le _, by omega, Jn.zero, HPT3.out, HNEW.out, HB3.out⟩, rfl⟩
          case round =>
            obtain ⟨kk, R, M, ⟨hk, hg, hj, hpt, hp6, hbel⟩, rfl⟩ := hrel
            obtain ⟨wi, rfl⟩ : ∃ wi : World, wi = wr := ⟨_, rfl⟩
            obtain ⟨b1, b2, b3, b4⟩ := hj.bd HALL.out
            have HJ := Lib.hid hj
            have HPT := Lib.hid hpt
            have HP6 := Lib.hid hp6
            have HBI := Lib.hid hbel
            clear hj hpt hp6 hbel HPT3 HNEW HB3
            by_cases hlt : kk < ps.length
            · obtain ⟨b, o, r, m, rfl, EQ, hc1, hc2, hbb⟩ := (HA.out.below HBI.out).at_ hlt
              obtain ⟨hm1, hm2⟩ : modP m := by have := HALL.out kk hlt; rw [EQ.out] at this; exact this
              have hB7 : Below wi.heap.size wi (wi.alloc (Obj.cells #[Value.int IntKind.i64 r, Value.int IntKind.i64 m] 66)) := by go_grown
              have HB7 := Lib.hid (HBI.out.trans (hB7.mono HBI.out.size))
              have HPT7 := Lib.hid (HPT.out.below hB7 HPT.out.lt)
              have HP67 := Lib.hid (HP6.out.below hB7 HP6.out.lt)
              obtain ⟨p0, p1, -, -⟩ := HP67.out
              clear hB7
              go_wp2_with fail
              refine (join_any R M r m _ b1 b2 b3 b4 hm1 hm2).mono ?_
              rintro e w8 ⟨⟨s, hjs, rfl⟩, hb8⟩
              have HPT8 := Lib.hid (HPT7.out.below hb8 HPT7.out.lt)
              have HP68 := Lib.hid (HP67.out.below hb8 HP67.out.lt)
              have HB8 := Lib.hid (HB7.out.trans (hb8.mono HB7.out.size))
              have HJS := Lib.hid hjs
              clear hb8 hjs p0 p1
              obtain ⟨p0, p1, p2, p3⟩ := HP68.out
              obtain ⟨M', hM'⟩ : ∃ M', M * (m / gz M m) = M' := ⟨_, rfl⟩
              obtain ⟨R', hR'⟩ : ∃ R', R + M * s = R' := ⟨_, rfl⟩
              rw [hM', hR']
              have HM' := Lib.hid hM'
              have HR' := Lib.hid hR'
              have HSET := Lib.hid (HP68.out.set_ R' M')
              have HPS := Lib.hid ((HPT8.out.other (p := ⟨g6, 0, none⟩) (by simp; omega) (.int .i64 R')).other (p := ⟨g6, 1, none⟩) (by simp; omega) (.int .i64 M'))
              have HBS := Lib.hid (stored HB8.out (g := g6) (by omega) R' M')
              clear hM' hR'
              by_cases hbig : 1000000000 < M'
              · obtain ⟨q0, q1, q2, q3⟩ := HPS.out
                go_wp2
                refine bodyPost_ret (v := .tuple #[.agg #[.int .i64 0, .int .i64 0], .int .i64 8]) (by simp [results, Try.results54, go_sem, q0, q1]) rfl ?_
                exact ⟨⟨0, 0, 8, .inr ⟨hlen, .inr ⟨HNB.out, .inr ⟨HNC.out, .inl ⟨kk, R, M, hlt, HJ.out, by rw [EQ.out]; show _ < M * (m / gz M m); rw [HM'.out]; exact hbig, rfl, rfl, rfl⟩⟩⟩⟩, rfl⟩, stored HBS.out (Nat.le_refl _) 0 0⟩
              · have HJN : Hid (Jn ps (kk + 1) R' M') := Lib.hid (by
                  have h := HJ.out.step hlt EQ.out HJS.out (by rw [HM'.out]; omega)
                  rw [HM'.out, HR'.out] at h; exact h)
                go_wp2
                go_roundg (ps.length - (kk + 1))
                case rel => exact ⟨kk + 1, R', M', ⟨by omega, by omega, HJN.out, HPS.out, HSET.out, HBS.out⟩, by go_num⟩
                case measure => omega
            · have hkl : kk = ps.length := by omega
              subst hkl
              obtain ⟨p0, p1, -, -⟩ := HP6.out
              obtain ⟨q0, q1, q2, q3⟩ := HPT.out
              go_wp2
              refine bodyPost_ret (v := .tuple #[.agg #[.int .i64 R, .int .i64 M], .int .i64 0]) (by simp [results, Try.results54, go_sem, q0, q1]) rfl ?_
              exact ⟨⟨R, M, 0, .inr ⟨hlen, .inr ⟨HNB.out, .inr ⟨HNC.out, .inr ⟨HJ.out, rfl⟩⟩⟩⟩, rfl⟩, stored HBI.out (Nat.le_refl _) R M⟩
end Go.Proofs.Ytcbdnnboddahkaa.Cn
