/-
  A load and a store of a long struct, one after the other, by what they do.
-/
import Derived.Test.YteiflfmpkfhkoaaHdt
namespace Go.Proofs.Yteiflfmpkfhkoaa.Hdt
open Go
section
variable {P : Program} {ops : Array Oper} {Q : Exit → Act → World → Prop}
theorem load_run {o : Oper} {t : TypeId} {x : Operand} {v : Value} {a : Act} {w : World} (ho : o.op = .load t x) (h : (Instr.loadAt t (a.eval x)).run P w = .ok v w) : (execOp a.eval o).run P w = .ok (.value v) w := by
  unfold execOp
  rw [ho]
  simp [h, Result.andThen]
theorem store_run {o : Oper} {t : TypeId} {x y : Operand} {a : Act} {w w' : World} (ho : o.op = .store t x y) (h : (Instr.storeAt t (a.eval x) (a.eval y)).run P w = .ok () w') : (execOp a.eval o).run P w = .ok .skip w' := by
  unfold execOp
  rw [ho]
  simp [h, Result.andThen]
/-- a load and a store, one after the other -/
theorem region_copy {id : Nat} {o1 o2 : Oper} {t1 t2 : TypeId} {x1 x2 y2 : Operand} {v : Value} {a : Act} {w w' : World} (g1 : o1.guard = none) (g2 : o2.guard = none) (p1 : o1.op = .load t1 x1) (p2 : o2.op = .store t2 x2 y2)
    (h1 : (Instr.loadAt t1 (a.eval x1)).run P w = .ok v w) (h2 : (Instr.storeAt t2 ((a.put o1.dst v).eval x2) ((a.put o1.dst v).eval y2)).run P w = .ok () w')
    (h : Q .normal ((a.put o1.dst v).put o2.dst undef) w') : (Code.region id #[o1, o2] false).wp P Q a w := by
  refine wp_region_list ?_
  have e1 := load_run p1 h1
  have e2 := store_run p2 h2
  simp only [wpList, Region.wanted, g1, g2, Oper.wp, e1, e2, Oper.upon, if_true]
  exact .inl (.inl h)
end
end Go.Proofs.Yteiflfmpkfhkoaa.Hdt
