/- What the rows' listed variable gives the walks: the table's eight cells; and the start that meets it; of no statement by themselves. -/
import Derived.Test.YtkjjcdkobapedaaDoorGet
import Derived.ProofKit
import Derived.LaidMore
import Derived.OpenShut
import Derived.Stop.Joined
import Derived.SizedLaws
namespace Go.Proofs.YtkjjcdkobapedaaDoor
open Go.ChangeShapes Go.WideShapes Go.ChangeAt Go.WideMaps Go.WideElems Go.RowKit

theorem gBounds : Tryd.prog.globalNamed "pith/varint.bounds" = some 0 := by kernel_rfl
theorem tBounds : (Tryd.prog.globals[0]?).map (·.type) = some 46 := by kernel_rfl
theorem own : ownKnob Tryd.prog.godebug = none := by kernel_rfl
theorem laidOut : laidOutB Tryd.prog = true := by kernel_rfl

theorem door_met (os : Os) (args : Array Value) : laidMetH Tryd.prog [("pith/varint.bounds", Rows.laid_pith_varint_bounds)] ((World.doorLaid Tryd.prog 400 os).forCall (fun _ _ => 0) ⟨#[], args, []⟩).memory :=
  laidMetH_of_parts3 (fuel := 8) (laidMet_of_run' 8 (by kernel_rfl) (by kernel_rfl)) (by kernel_rfl) (by kernel_rfl)

theorem c22 : Tryd.prog.cellsOf 22 = 1 := by kernel_rfl

theorem tab_of_laid {W : World} (h : laidMetH Tryd.prog [("pith/varint.bounds", Rows.laid_pith_varint_bounds)] W) : Tab W := by
  rw [MakeChecks.laidMetH_plain _ _ _ (by kernel_rfl)] at h
  obtain ⟨ps, ⟨g0, t0, cs0, f0, p0, q0, hg0, ht0, hv0, hd0, _, _⟩, _, _⟩ := h
  obtain rfl := Option.some.inj (gBounds.symm.trans hg0)
  obtain rfl := Option.some.inj (tBounds.symm.trans ht0)
  obtain ⟨xs, m1, rfl, hx1, hlen, hn3, hel⟩ := DataW.trod_array Tryd.underlying46 hd0
  simp only [Prod.mk.injEq, Rows.laid_pith_varint_bounds, DataW.agg.injEq] at hx1
  intro k hk
  have h0 := hel k hk
  have hv := World.var?_cell hg0 hv0 k
  rw [c22, Nat.mul_one] at h0
  obtain ⟨y, hy⟩ : ∃ y, xs[k]? = some y := ⟨xs[k]'(by omega), List.getElem?_eq_getElem _⟩
  rw [hy] at h0
  obtain ⟨z, e1, e2, _⟩ := DataW.trod_int Tryd.underlying22 h0
  have hz : (xs.map (·.1))[k]? = some (.lit (.int .u64 z)) := by rw [List.getElem?_map, hy, e2]; rfl
  rw [← hx1.1] at hz
  have hzb : z = bd k := by
    rcases k with _ | _ | _ | _ | _ | _ | _ | _ | k
    all_goals first | omega | (simp at hz; simp only [bd, Nat.reduceAdd]; omega)
  subst hzb
  have hk2 : cs0.toList[k]? = some (.int .u64 (bd k)) := by
    have h3 : ((cs0.toList.drop k).take 1)[0]? = some (.int .u64 (bd k)) := by rw [e1]; rfl
    simpa using h3
  rw [hv]
  simpa using hk2
end Go.Proofs.YtkjjcdkobapedaaDoor
