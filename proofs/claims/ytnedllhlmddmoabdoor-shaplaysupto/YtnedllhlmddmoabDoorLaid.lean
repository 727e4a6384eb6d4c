/- What the rows' listed variables give the walks: the two tables; and the start that meets them; of no statement by themselves. -/
import Derived.Test.YtnedllhlmddmoabDoorHash
import Derived.ProofKit
import Derived.LaidMore
import Derived.OpenShut
import Derived.Stop.Joined
import Derived.SizedLaws
namespace Go.Proofs.YtnedllhlmddmoabDoor
open Go.ChangeShapes Go.WideShapes Go.ChangeAt Go.WideMaps Go.WideElems Go.RowKit

theorem gFirst : Tryd.prog.globalNamed "pith/sha.first" = some 0 := by kernel_rfl
theorem gConst : Tryd.prog.globalNamed "pith/sha.constants" = some 1 := by kernel_rfl
theorem tFirst : (Tryd.prog.globals[0]?).map (·.type) = some 45 := by kernel_rfl
theorem tConst : (Tryd.prog.globals[1]?).map (·.type) = some 70 := by kernel_rfl
theorem own : ownKnob Tryd.prog.godebug = none := by kernel_rfl
theorem laidOut : laidOutB Tryd.prog = true := by kernel_rfl
theorem cu32 : Tryd.prog.cellsOf 44 = 1 := by kernel_rfl

theorem door_met (os : Os) (args : Array Value) : laidMetH Tryd.prog [("pith/sha.first", Rows.laid_pith_sha_first), ("pith/sha.constants", Rows.laid_pith_sha_constants)] ((World.doorLaid Tryd.prog 400 os).forCall (fun _ _ => 0) ⟨#[], args, []⟩).memory :=
  laidMetH_of_parts3 (fuel := 8) (laidMet_of_run' 8 (by kernel_rfl) (by kernel_rfl)) (by kernel_rfl) (by kernel_rfl)

/-- An array of words that reads so lies so. -/
theorem words_of {W : World} {g n : Nat} {t : TypeId} {name : String} {cs : Array Value} {l : List Nat} {f : Nat} {p : List MemPlace} {H : Type} {enc : TypeId × Value → H} {sp : TypeId → Bool} {held : Bool} (hg : Tryd.prog.globalNamed name = some g) (hu : Tryd.prog.underlying t = some (.array n 44)) (hl : l.length = n) (hct : Tryd.prog.cellsOf t = n)
    (hv : W.var? Tryd.prog name = some cs) (hd : DataW.trod enc Tryd.prog W 0 sp held f t cs.toList = some (.agg (l.map fun (x : Nat) => .lit (.int .u32 (x : Int))), p)) : ∃ ty fr, W.heap[g]? = some (.cells (wds l).toArray ty fr) := by
  obtain ⟨xs, m, rfl, hx, hlen, hn, hel⟩ := DataW.trod_array hu hd
  simp only [Prod.mk.injEq, DataW.agg.injEq] at hx
  have hcs : cs = (wds l).toArray := by
    apply Array.ext
    · rw [wds_size, hl, ← hct, ← hlen, Array.length_toList]
    · intro k h1 h2
      have hk : k < n := by rw [wds_size, hl] at h2; exact h2
      have h0 := hel k hk
      rw [cu32, Nat.mul_one] at h0
      obtain ⟨y, hy⟩ : ∃ y, xs[k]? = some y := ⟨xs[k]'(by omega), List.getElem?_eq_getElem _⟩
      rw [hy] at h0
      obtain ⟨z, e1, e2, _⟩ := DataW.trod_int Tryd.underlying44 h0
      have hz : (xs.map (·.1))[k]? = some (.lit (.int .u32 z)) := by rw [List.getElem?_map, hy, e2]; rfl
      rw [← hx.1, List.getElem?_map, List.getElem?_eq_getElem (by omega)] at hz
      simp only [Option.map_some, Option.some.injEq, DataW.lit.injEq, Lit.int.injEq, true_and] at hz
      have h3 : ((cs.toList.drop k).take 1)[0]? = some (.int .u32 z) := by rw [e1]; rfl
      have h4 : cs.toList[k]? = some (.int .u32 z) := by simpa using h3
      have h5 : cs[k] = .int .u32 z := by simpa [h1] using h4
      rw [h5, ← hz]
      simp [wds]
  simp only [World.var?, hg, Option.bind_some] at hv
  cases hq : W.heap[g]? with
  | none => rw [hq] at hv; cases hv
  | some o =>
    cases o with
    | cells c ty fr =>
      rw [hq] at hv
      simp only [Option.some.injEq] at hv
      exact ⟨ty, fr, by rw [hv, hcs]⟩
    | _ => rw [hq] at hv; cases hv

theorem laidI {H : Type} : (Rows.laid_pith_sha_first : DataW H) = .agg (Sha.I.map fun (x : Nat) => .lit (.int .u32 (x : Int))) := rfl
theorem laidK {H : Type} : (Rows.laid_pith_sha_constants : DataW H) = .agg (Sha.K.map fun (x : Nat) => .lit (.int .u32 (x : Int))) := rfl
theorem cA8 : Tryd.prog.cellsOf 45 = 8 := by kernel_rfl
theorem cA64 : Tryd.prog.cellsOf 70 = 64 := by kernel_rfl

theorem tab_of_laid {W : World} (h : laidMetH Tryd.prog [("pith/sha.first", Rows.laid_pith_sha_first), ("pith/sha.constants", Rows.laid_pith_sha_constants)] W) : Tab W := by
  rw [MakeChecks.laidMetH_plain _ _ _ (by kernel_rfl)] at h
  obtain ⟨ps, ⟨g0, t0, cs0, f0, p0, q0, hg0, ht0, hv0, hd0, ⟨g1, t1, cs1, f1, p1, q1, hg1, ht1, hv1, hd1, _⟩, _⟩, _, _⟩ := h
  obtain rfl := Option.some.inj (gFirst.symm.trans hg0)
  obtain rfl := Option.some.inj (tFirst.symm.trans ht0)
  obtain rfl := Option.some.inj (gConst.symm.trans hg1)
  obtain rfl := Option.some.inj (tConst.symm.trans ht1)
  rw [laidI] at hd0
  rw [laidK] at hd1
  exact ⟨words_of hg0 Tryd.underlying45 rfl cA8 hv0 hd0, words_of hg1 Tryd.underlying70 rfl cA64 hv1 hd1⟩

end Go.Proofs.YtnedllhlmddmoabDoor
