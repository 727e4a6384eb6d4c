/- The tables that the program's own text lays; of no statement by itself. -/
import Derived.Test.YtehfcfpbjenmjaaDoorSv
import Derived.ProofKit
import Derived.LaidMore
import Derived.OpenShut
import Derived.Stop.Joined
import Derived.SizedLaws
namespace Go.Proofs.YtehfcfpbjenmjaaDoor
open Go.ChangeShapes Go.WideShapes Go.ChangeAt Go.WideMaps Go.WideElems Go.RowKit
set_option linter.unusedVariables false

/-- An array of whole numbers that reads so lies so. -/
theorem ints_lie {W : World} {m : Nat} {t e : TypeId} {q : IntKind} {cs : List Value} {l : List Int} {f : Nat} {p : List MemPlace} {H : Type} {enc : TypeId × Value → H} {sp : TypeId → Bool} {held : Bool} (hu : Tryd.prog.underlying t = some (.array m e)) (he : Tryd.prog.underlying e = some (.int q)) (hce : Tryd.prog.cellsOf e = 1) (hct : Tryd.prog.cellsOf t = m)
    {d : DataW H} (hde : d = .agg (l.map fun (x : Int) => .lit (.int q x))) (hd : DataW.trod enc Tryd.prog W 0 sp held f t cs = some (d, p)) : cs = l.map (Value.int q) := by
  subst hde
  obtain ⟨xs, k, rfl, hx, hlen, hn, hel⟩ := DataW.trod_array hu hd
  simp only [Prod.mk.injEq, DataW.agg.injEq] at hx
  have hl : l.length = m := by
    have := congrArg List.length hx.1
    simp only [List.length_map] at this
    omega
  apply List.ext_getElem
  · rw [hlen, hct, List.length_map, hl]
  · intro i h1 h2
    have hi : i < m := by rw [List.length_map, hl] at h2; exact h2
    have h0 := hel i hi
    rw [hce, Nat.mul_one] at h0
    obtain ⟨y, hy⟩ : ∃ y, xs[i]? = some y := ⟨xs[i]'(by omega), List.getElem?_eq_getElem _⟩
    rw [hy] at h0
    obtain ⟨z, e1, e2, _⟩ := DataW.trod_int he h0
    have hz : (xs.map (·.1))[i]? = some (.lit (.int q z)) := by rw [List.getElem?_map, hy, e2]; rfl
    rw [← hx.1, List.getElem?_map, List.getElem?_eq_getElem (by omega)] at hz
    simp only [Option.map_some, Option.some.injEq, DataW.lit.injEq, Lit.int.injEq, true_and] at hz
    have h3 : ((cs.drop i).take 1)[0]? = some (.int q z) := by rw [e1]; rfl
    have h4 : cs[i]? = some (.int q z) := by simpa using h3
    have h5 : cs[i] = .int q z := by simpa [h1] using h4
    rw [h5, ← hz]
    simp
theorem flat_lie {f : Int → Value} {m : Nat} : ∀ (ll : List (List Int)) (cs : List Value), cs.length = ll.length * m → (∀ i l, ll[i]? = some l → (cs.drop (i * m)).take m = l.map f) → cs = ll.flatten.map f
  | [], cs, hl, _ => by
    have : cs.length = 0 := by simpa using hl
    simpa using this
  | l :: ll, cs, hl, h => by
    have h0 := h 0 l rfl
    rw [Nat.zero_mul, List.drop_zero] at h0
    have hr := flat_lie (f := f) (m := m) ll (cs.drop m) (by rw [List.length_drop, hl, List.length_cons, Nat.add_mul, Nat.one_mul]; omega) (fun i l' hi => by
      have := h (i + 1) l' hi
      rw [List.drop_drop]
      rw [show m + i * m = (i + 1) * m by rw [Nat.add_mul, Nat.one_mul, Nat.add_comm]]
      exact this)
    rw [List.flatten_cons, List.map_append, ← h0, ← hr, List.take_append_drop]
/-- An array of such arrays. -/
theorem rows_lie {W : World} {n m : Nat} {t t1 e : TypeId} {q : IntKind} {cs : List Value} {ll : List (List Int)} {f : Nat} {p : List MemPlace} {H : Type} {enc : TypeId × Value → H} {sp : TypeId → Bool} {held : Bool} (hu : Tryd.prog.underlying t = some (.array n t1)) (hu1 : Tryd.prog.underlying t1 = some (.array m e)) (he : Tryd.prog.underlying e = some (.int q)) (hce : Tryd.prog.cellsOf e = 1) (hc1 : Tryd.prog.cellsOf t1 = m) (hct : Tryd.prog.cellsOf t = n * m)
    {d : DataW H} (hde : d = .agg (ll.map fun l => .agg (l.map fun (x : Int) => .lit (.int q x)))) (hd : DataW.trod enc Tryd.prog W 0 sp held f t cs = some (d, p)) : cs = ll.flatten.map (Value.int q) := by
  subst hde
  obtain ⟨xs, k, rfl, hx, hlen, hn, hel⟩ := DataW.trod_array hu hd
  simp only [Prod.mk.injEq, DataW.agg.injEq] at hx
  have hl : ll.length = n := by
    have := congrArg List.length hx.1
    simp only [List.length_map] at this
    omega
  refine flat_lie (m := m) ll cs (by rw [hlen, hct, hl]) (fun i l hi => ?_)
  have hin : i < n := by have := (List.getElem?_eq_some_iff.1 hi).1; omega
  have h0 := hel i hin
  rw [hc1] at h0
  obtain ⟨y, hy⟩ : ∃ y, xs[i]? = some y := ⟨xs[i]'(by omega), List.getElem?_eq_getElem _⟩
  rw [hy] at h0
  have hz : (xs.map (·.1))[i]? = some y.1 := by rw [List.getElem?_map, hy]; rfl
  rw [← hx.1, List.getElem?_map, hi] at hz
  simp only [Option.map_some, Option.some.injEq] at hz
  exact ints_lie hu1 he hce hc1 (d := y.1) (p := y.2) hz.symm h0
theorem var_lie {W : World} {g : Nat} {name : String} {cs : Array Value} {l : List Value} (hg : Tryd.prog.globalNamed name = some g) (hv : W.var? Tryd.prog name = some cs) (h : cs.toList = l) : ∃ ty fr, W.heap[g]? = some (.cells l.toArray ty fr) := by
  simp only [World.var?, hg, Option.bind_some] at hv
  cases hq : W.heap[g]? with
  | none => rw [hq] at hv; cases hv
  | some o =>
    cases o with
    | cells c ty fr =>
      rw [hq] at hv
      simp only [Option.some.injEq] at hv
      exact ⟨ty, fr, by rw [hv, ← h]⟩
    | _ => rw [hq] at hv; cases hv
/-- pith/crc.half32, as it is laid. -/
def tab0 : List Int := [0, 498536548, 997073096, 651767980, 1994146192, 1802195444, 1303535960, 1342533948, 3988292384, 4027552580, 3604390888, 3412177804, 2607071920, 2262029012, 2685067896, 3183342108]
theorem gtab0 : Tryd.prog.globalNamed "pith/crc.half32" = some 1 := by kernel_rfl
theorem ttab0 : (Tryd.prog.globals[1]?).map (·.type) = some 126 := by kernel_rfl
theorem ltab0 {H : Type} : (Rows.laid_pith_crc_half32 : DataW H) = .agg (tab0.map fun (x : Int) => .lit (.int .u32 x)) := rfl
/-- pith/varint.bounds, as it is laid. -/
def tab1 : List Int := [128, 16384, 2097152, 268435456, 34359738368, 4398046511104, 562949953421312, 72057594037927936]
theorem gtab1 : Tryd.prog.globalNamed "pith/varint.bounds" = some 0 := by kernel_rfl
theorem ttab1 : (Tryd.prog.globals[0]?).map (·.type) = some 114 := by kernel_rfl
theorem ltab1 {H : Type} : (Rows.laid_pith_varint_bounds : DataW H) = .agg (tab1.map fun (x : Int) => .lit (.int .u64 x)) := rfl
/-- The tables lie there. -/
def Tab (w : World) : Prop := (∃ ty fr, w.heap[1]? = some (.cells (tab0.map (Value.int .u32)).toArray ty fr)) ∧ (∃ ty fr, w.heap[0]? = some (.cells (tab1.map (Value.int .u64)).toArray ty fr))
theorem tab_keep {w w' : World} (h : Tab w) (hc : Chg (fun _ => False) w w') : Tab w' := by
  obtain ⟨⟨y0, r0, h0⟩, ⟨y1, r1, h1⟩⟩ := h
  exact ⟨⟨y0, r0, blk_keep h0 hc (fun f => f)⟩, ⟨y1, r1, blk_keep h1 hc (fun f => f)⟩⟩
theorem tab_of_laid {W : World} (h : laidMetH Tryd.prog [("pith/crc.half32", Rows.laid_pith_crc_half32), ("pith/varint.bounds", Rows.laid_pith_varint_bounds)] W) : Tab W := by
  rw [MakeChecks.laidMetH_plain _ _ _ (by kernel_rfl)] at h
  obtain ⟨ps, ⟨g0, t0, cs0, f0, p0, q0, hg0, ht0, hv0, hd0, ⟨g1, t1, cs1, f1, p1, q1, hg1, ht1, hv1, hd1, _⟩, _⟩, _, _⟩ := h
  obtain rfl := Option.some.inj (gtab0.symm.trans hg0)
  obtain rfl := Option.some.inj (ttab0.symm.trans ht0)
  obtain rfl := Option.some.inj (gtab1.symm.trans hg1)
  obtain rfl := Option.some.inj (ttab1.symm.trans ht1)
  exact ⟨var_lie gtab0 hv0 (ints_lie Tryd.underlying126 Tryd.underlying32 (by kernel_rfl) (by kernel_rfl) ltab0 hd0), var_lie gtab1 hv1 (ints_lie Tryd.underlying114 Tryd.underlying76 (by kernel_rfl) (by kernel_rfl) ltab1 hd1)⟩
theorem tab_at0 {w : World} (h : Tab w) {k : Nat} {x : Int} (hx : tab0[k]? = some x) : w.cell? ⟨1, k, none⟩ = some (.int .u32 x) := by
  obtain ⟨ty, fr, hb⟩ := h.1
  simp only [World.cell?, hb]
  rw [List.getElem?_toArray, List.getElem?_map, hx]
  rfl
theorem tab_at1 {w : World} (h : Tab w) {k : Nat} {x : Int} (hx : tab1[k]? = some x) : w.cell? ⟨0, k, none⟩ = some (.int .u64 x) := by
  obtain ⟨ty, fr, hb⟩ := h.2
  simp only [World.cell?, hb]
  rw [List.getElem?_toArray, List.getElem?_map, hx]
  rfl
end Go.Proofs.YtehfcfpbjenmjaaDoor
