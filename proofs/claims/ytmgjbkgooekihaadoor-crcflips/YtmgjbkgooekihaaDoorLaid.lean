/- What the rows' listed variables give the walks: the two tables' cells; and the start that meets them; of no statement by themselves. -/
import Derived.Test.YtmgjbkgooekihaaDoorFixed
import Derived.ProofKit
import Derived.LaidMore
import Derived.OpenShut
import Derived.Stop.Joined
import Derived.SizedLaws
namespace Go.Proofs.YtmgjbkgooekihaaDoor
open Go.ChangeShapes Go.WideShapes Go.ChangeAt Go.WideMaps Go.WideElems Go.RowKit

theorem gHalf32 : Tryd.prog.globalNamed "pith/crc.half32" = some 0 := by kernel_rfl
theorem gHalf64 : Tryd.prog.globalNamed "pith/crc.half64" = some 1 := by kernel_rfl
theorem tHalf32 : (Tryd.prog.globals[0]?).map (·.type) = some 62 := by kernel_rfl
theorem tHalf64 : (Tryd.prog.globals[1]?).map (·.type) = some 67 := by kernel_rfl
theorem own : ownKnob Tryd.prog.godebug = none := by kernel_rfl
theorem laidOut : laidOutB Tryd.prog = true := by kernel_rfl
theorem cu32 : Tryd.prog.cellsOf 23 = 1 := by kernel_rfl
theorem cu64 : Tryd.prog.cellsOf 25 = 1 := by kernel_rfl

theorem door_met (os : Os) (args : Array Value) : laidMetH Tryd.prog [("pith/crc.half32", Rows.laid_pith_crc_half32), ("pith/crc.half64", Rows.laid_pith_crc_half64)] ((World.doorLaid Tryd.prog 400 os).forCall (fun _ _ => 0) ⟨#[], args, []⟩).memory :=
  laidMetH_of_parts3 (fuel := 8) (laidMet_of_run' 8 (by kernel_rfl) (by kernel_rfl)) (by kernel_rfl) (by kernel_rfl)

theorem tab_of_laid {W : World} (h : laidMetH Tryd.prog [("pith/crc.half32", Rows.laid_pith_crc_half32), ("pith/crc.half64", Rows.laid_pith_crc_half64)] W) : Tab W := by
  rw [MakeChecks.laidMetH_plain _ _ _ (by kernel_rfl)] at h
  obtain ⟨ps, ⟨g0, t0, cs0, f0, p0, q0, hg0, ht0, hv0, hd0, ⟨g1, t1, cs1, f1, p1, q1, hg1, ht1, hv1, hd1, _⟩, _⟩, _, _⟩ := h
  obtain rfl := Option.some.inj (gHalf32.symm.trans hg0)
  obtain rfl := Option.some.inj (tHalf32.symm.trans ht0)
  obtain rfl := Option.some.inj (gHalf64.symm.trans hg1)
  obtain rfl := Option.some.inj (tHalf64.symm.trans ht1)
  obtain ⟨xs0, m0, rfl, hx0, hlen0, hnn0, hel0⟩ := DataW.trod_array Tryd.underlying62 hd0
  obtain ⟨xs1, m1, rfl, hx1, hlen1, hnn1, hel1⟩ := DataW.trod_array Tryd.underlying67 hd1
  simp only [Prod.mk.injEq, Rows.laid_pith_crc_half32, DataW.agg.injEq] at hx0
  simp only [Prod.mk.injEq, Rows.laid_pith_crc_half64, DataW.agg.injEq] at hx1
  refine ⟨fun k hk => ?_, fun k hk => ?_⟩
  · have h0 := hel0 k hk
    have hv := World.var?_cell hg0 hv0 k
    rw [cu32, Nat.mul_one] at h0
    obtain ⟨y, hy⟩ : ∃ y, xs0[k]? = some y := ⟨xs0[k]'(by omega), List.getElem?_eq_getElem _⟩
    rw [hy] at h0
    obtain ⟨z, e1, e2, _⟩ := DataW.trod_int Tryd.underlying23 h0
    have hz : (xs0.map (·.1))[k]? = some (.lit (.int .u32 z)) := by rw [List.getElem?_map, hy, e2]; rfl
    rw [← hx0.1] at hz
    have hzb : z = (Crc.itr Crc.P32 4 k : Nat) := by
      rcases k with _ | _ | _ | _ | _ | _ | _ | _ | _ | _ | _ | _ | _ | _ | _ | _ | k
      all_goals first | omega | (simp only [Nat.reduceAdd, List.getElem?_cons_zero, List.getElem?_cons_succ, Option.some.injEq, DataW.lit.injEq, Lit.int.injEq, true_and] at hz; rw [← hz]; decide +kernel)
    subst hzb
    have hk2 : cs0.toList[k]? = some (.int .u32 (Crc.itr Crc.P32 4 k : Nat)) := by
      have h3 : ((cs0.toList.drop k).take 1)[0]? = some (.int .u32 (Crc.itr Crc.P32 4 k : Nat)) := by rw [e1]; rfl
      simpa using h3
    rw [hv]
    simpa using hk2
  · have h0 := hel1 k hk
    have hv := World.var?_cell hg1 hv1 k
    rw [cu64, Nat.mul_one] at h0
    obtain ⟨y, hy⟩ : ∃ y, xs1[k]? = some y := ⟨xs1[k]'(by omega), List.getElem?_eq_getElem _⟩
    rw [hy] at h0
    obtain ⟨z, e1, e2, _⟩ := DataW.trod_int Tryd.underlying25 h0
    have hz : (xs1.map (·.1))[k]? = some (.lit (.int .u64 z)) := by rw [List.getElem?_map, hy, e2]; rfl
    rw [← hx1.1] at hz
    have hzb : z = (Crc.itr Crc.P64 4 k : Nat) := by
      rcases k with _ | _ | _ | _ | _ | _ | _ | _ | _ | _ | _ | _ | _ | _ | _ | _ | k
      all_goals first | omega | (simp only [Nat.reduceAdd, List.getElem?_cons_zero, List.getElem?_cons_succ, Option.some.injEq, DataW.lit.injEq, Lit.int.injEq, true_and] at hz; rw [← hz]; decide +kernel)
    subst hzb
    have hk2 : cs1.toList[k]? = some (.int .u64 (Crc.itr Crc.P64 4 k : Nat)) := by
      have h3 : ((cs1.toList.drop k).take 1)[0]? = some (.int .u64 (Crc.itr Crc.P64 4 k : Nat)) := by rw [e1]; rfl
      simpa using h3
    rw [hv]
    simpa using hk2
end Go.Proofs.YtmgjbkgooekihaaDoor
