/- The tables that the program's own text lays; of no statement by itself. -/
import Derived.Test.YtikokgngkagieaaDoorFrb
import Derived.ProofKit
import Derived.LaidMore
import Derived.OpenShut
import Derived.Stop.Joined
import Derived.SizedLaws
namespace Go.Proofs.YtikokgngkagieaaDoor
open Go.ChangeShapes Go.WideShapes Go.ChangeAt Go.WideMaps Go.WideElems Go.RowKit
set_option linter.unusedVariables false

/-- An array of whole numbers that reads so lies so. -/
theorem ints_lie {W : World} {m : Nat} {t e : TypeId} {q : IntKind} {cs : List Value} {l : List Int} {f : Nat} {p : List MemPlace} {H : Type} {enc : TypeId × Value → H} {sp : TypeId → Bool} {held : Bool} (hu : Tryd.prog.underlying t = some (.array m e)) (he : Tryd.prog.underlying e = some (.int q)) (hce : Tryd.prog.cellsOf e = 1) (hct : Tryd.prog.cellsOf t = m)
    {d : DataW H} (hde : d = .agg (l.map fun (x : Int) => .lit (.int q x))) (hd : DataW.trod enc Tryd.prog W 0 sp held f t cs = some (d, p)) : cs = l.map (Value.int q) := by
  subst hde
  obtain ⟨xs, k, rfl, hx, hlen, hn, hel⟩ := DataW.trod_array hu hd
  simp only [Prod.mk.injEq, DataW.agg.injEq] at hx
  have hl : l.length = m := by
    have := congrArg List.length hx.1
    simp only [List.length_map] at this
    omega
  apply List.ext_getElem
  · rw [hlen, hct, List.length_map, hl]
  · intro i h1 h2
    have hi : i < m := by rw [List.length_map, hl] at h2; exact h2
    have h0 := hel i hi
    rw [hce, Nat.mul_one] at h0
    obtain ⟨y, hy⟩ : ∃ y, xs[i]? = some y := ⟨xs[i]'(by omega), List.getElem?_eq_getElem _⟩
    rw [hy] at h0
    obtain ⟨z, e1, e2, _⟩ := DataW.trod_int he h0
    have hz : (xs.map (·.1))[i]? = some (.lit (.int q z)) := by rw [List.getElem?_map, hy, e2]; rfl
    rw [← hx.1, List.getElem?_map, List.getElem?_eq_getElem (by omega)] at hz
    simp only [Option.map_some, Option.some.injEq, DataW.lit.injEq, Lit.int.injEq, true_and] at hz
    have h3 : ((cs.drop i).take 1)[0]? = some (.int q z) := by rw [e1]; rfl
    have h4 : cs[i]? = some (.int q z) := by simpa using h3
    have h5 : cs[i] = .int q z := by simpa [h1] using h4
    rw [h5, ← hz]
    simp
theorem flat_lie {f : Int → Value} {m : Nat} : ∀ (ll : List (List Int)) (cs : List Value), cs.length = ll.length * m → (∀ i l, ll[i]? = some l → (cs.drop (i * m)).take m = l.map f) → cs = ll.flatten.map f
  | [], cs, hl, _ => by
    have : cs.length = 0 := by simpa using hl
    simpa using this
  | l :: ll, cs, hl, h => by
    have h0 := h 0 l rfl
    rw [Nat.zero_mul, List.drop_zero] at h0
    have hr := flat_lie (f := f) (m := m) ll (cs.drop m) (by rw [List.length_drop, hl, List.length_cons, Nat.add_mul, Nat.one_mul]; omega) (fun i l' hi => by
      have := h (i + 1) l' hi
      rw [List.drop_drop]
      rw [show m + i * m = (i + 1) * m by rw [Nat.add_mul, Nat.one_mul, Nat.add_comm]]
      exact this)
    rw [List.flatten_cons, List.map_append, ← h0, ← hr, List.take_append_drop]
/-- An array of such arrays. -/
theorem rows_lie {W : World} {n m : Nat} {t t1 e : TypeId} {q : IntKind} {cs : List Value} {ll : List (List Int)} {f : Nat} {p : List MemPlace} {H : Type} {enc : TypeId × Value → H} {sp : TypeId → Bool} {held : Bool} (hu : Tryd.prog.underlying t = some (.array n t1)) (hu1 : Tryd.prog.underlying t1 = some (.array m e)) (he : Tryd.prog.underlying e = some (.int q)) (hce : Tryd.prog.cellsOf e = 1) (hc1 : Tryd.prog.cellsOf t1 = m) (hct : Tryd.prog.cellsOf t = n * m)
    {d : DataW H} (hde : d = .agg (ll.map fun l => .agg (l.map fun (x : Int) => .lit (.int q x)))) (hd : DataW.trod enc Tryd.prog W 0 sp held f t cs = some (d, p)) : cs = ll.flatten.map (Value.int q) := by
  subst hde
  obtain ⟨xs, k, rfl, hx, hlen, hn, hel⟩ := DataW.trod_array hu hd
  simp only [Prod.mk.injEq, DataW.agg.injEq] at hx
  have hl : ll.length = n := by
    have := congrArg List.length hx.1
    simp only [List.length_map] at this
    omega
  refine flat_lie (m := m) ll cs (by rw [hlen, hct, hl]) (fun i l hi => ?_)
  have hin : i < n := by have := (List.getElem?_eq_some_iff.1 hi).1; omega
  have h0 := hel i hin
  rw [hc1] at h0
  obtain ⟨y, hy⟩ : ∃ y, xs[i]? = some y := ⟨xs[i]'(by omega), List.getElem?_eq_getElem _⟩
  rw [hy] at h0
  have hz : (xs.map (·.1))[i]? = some y.1 := by rw [List.getElem?_map, hy]; rfl
  rw [← hx.1, List.getElem?_map, hi] at hz
  simp only [Option.map_some, Option.some.injEq] at hz
  exact ints_lie hu1 he hce hc1 (d := y.1) (p := y.2) hz.symm h0
theorem var_lie {W : World} {g : Nat} {name : String} {cs : Array Value} {l : List Value} (hg : Tryd.prog.globalNamed name = some g) (hv : W.var? Tryd.prog name = some cs) (h : cs.toList = l) : ∃ ty fr, W.heap[g]? = some (.cells l.toArray ty fr) := by
  simp only [World.var?, hg, Option.bind_some] at hv
  cases hq : W.heap[g]? with
  | none => rw [hq] at hv; cases hv
  | some o =>
    cases o with
    | cells c ty fr =>
      rw [hq] at hv
      simp only [Option.some.injEq] at hv
      exact ⟨ty, fr, by rw [hv, ← h]⟩
    | _ => rw [hq] at hv; cases hv
/-- pith/crc.half32, as it is laid. -/
def tab0 : List Int := [0, 498536548, 997073096, 651767980, 1994146192, 1802195444, 1303535960, 1342533948, 3988292384, 4027552580, 3604390888, 3412177804, 2607071920, 2262029012, 2685067896, 3183342108]
theorem gtab0 : Tryd.prog.globalNamed "pith/crc.half32" = some 2 := by kernel_rfl
theorem ttab0 : (Tryd.prog.globals[2]?).map (·.type) = some 110 := by kernel_rfl
theorem ltab0 {H : Type} : (Rows.laid_pith_crc_half32 : DataW H) = .agg (tab0.map fun (x : Int) => .lit (.int .u32 x)) := rfl
/-- pith/sha.first, as it is laid. -/
def tab1 : List Int := [1779033703, 3144134277, 1013904242, 2773480762, 1359893119, 2600822924, 528734635, 1541459225]
theorem gtab1 : Tryd.prog.globalNamed "pith/sha.first" = some 3 := by kernel_rfl
theorem ttab1 : (Tryd.prog.globals[3]?).map (·.type) = some 111 := by kernel_rfl
theorem ltab1 {H : Type} : (Rows.laid_pith_sha_first : DataW H) = .agg (tab1.map fun (x : Int) => .lit (.int .u32 x)) := rfl
/-- pith/frame.headMark, as it is laid. -/
def tab2 : List Int := [253, 55, 122, 88, 90, 0]
theorem gtab2 : Tryd.prog.globalNamed "pith/frame.headMark" = some 0 := by kernel_rfl
theorem ttab2 : (Tryd.prog.globals[0]?).map (·.type) = some 56 := by kernel_rfl
theorem ltab2 {H : Type} : (Rows.laid_pith_frame_headMark : DataW H) = .agg (tab2.map fun (x : Int) => .lit (.int .u8 x)) := rfl
/-- pith/frame.footMark, as it is laid. -/
def tab3 : List Int := [89, 90]
theorem gtab3 : Tryd.prog.globalNamed "pith/frame.footMark" = some 1 := by kernel_rfl
theorem ttab3 : (Tryd.prog.globals[1]?).map (·.type) = some 53 := by kernel_rfl
theorem ltab3 {H : Type} : (Rows.laid_pith_frame_footMark : DataW H) = .agg (tab3.map fun (x : Int) => .lit (.int .u8 x)) := rfl
/-- The tables lie there. -/
def Tab (w : World) : Prop := (∃ ty fr, w.heap[2]? = some (.cells (tab0.map (Value.int .u32)).toArray ty fr)) ∧ (∃ ty fr, w.heap[3]? = some (.cells (tab1.map (Value.int .u32)).toArray ty fr)) ∧ (∃ ty fr, w.heap[0]? = some (.cells (tab2.map (Value.int .u8)).toArray ty fr)) ∧ (∃ ty fr, w.heap[1]? = some (.cells (tab3.map (Value.int .u8)).toArray ty fr))
theorem tab_keep {w w' : World} (h : Tab w) (hc : Chg (fun _ => False) w w') : Tab w' := by
  obtain ⟨⟨y0, r0, h0⟩, ⟨y1, r1, h1⟩, ⟨y2, r2, h2⟩, ⟨y3, r3, h3⟩⟩ := h
  exact ⟨⟨y0, r0, blk_keep h0 hc (fun f => f)⟩, ⟨y1, r1, blk_keep h1 hc (fun f => f)⟩, ⟨y2, r2, blk_keep h2 hc (fun f => f)⟩, ⟨y3, r3, blk_keep h3 hc (fun f => f)⟩⟩
theorem tab_of_laid {W : World} (h : laidMetH Tryd.prog [("pith/crc.half32", Rows.laid_pith_crc_half32), ("pith/sha.first", Rows.laid_pith_sha_first), ("pith/frame.headMark", Rows.laid_pith_frame_headMark), ("pith/frame.footMark", Rows.laid_pith_frame_footMark)] W) : Tab W := by
  rw [MakeChecks.laidMetH_plain _ _ _ (by kernel_rfl)] at h
  obtain ⟨ps, ⟨g0, t0, cs0, f0, p0, q0, hg0, ht0, hv0, hd0, ⟨g1, t1, cs1, f1, p1, q1, hg1, ht1, hv1, hd1, ⟨g2, t2, cs2, f2, p2, q2, hg2, ht2, hv2, hd2, ⟨g3, t3, cs3, f3, p3, q3, hg3, ht3, hv3, hd3, _⟩, _⟩, _⟩, _⟩, _, _⟩ := h
  obtain rfl := Option.some.inj (gtab0.symm.trans hg0)
  obtain rfl := Option.some.inj (ttab0.symm.trans ht0)
  obtain rfl := Option.some.inj (gtab1.symm.trans hg1)
  obtain rfl := Option.some.inj (ttab1.symm.trans ht1)
  obtain rfl := Option.some.inj (gtab2.symm.trans hg2)
  obtain rfl := Option.some.inj (ttab2.symm.trans ht2)
  obtain rfl := Option.some.inj (gtab3.symm.trans hg3)
  obtain rfl := Option.some.inj (ttab3.symm.trans ht3)
  exact ⟨var_lie gtab0 hv0 (ints_lie Tryd.underlying110 Tryd.underlying36 (by kernel_rfl) (by kernel_rfl) ltab0 hd0), var_lie gtab1 hv1 (ints_lie Tryd.underlying111 Tryd.underlying36 (by kernel_rfl) (by kernel_rfl) ltab1 hd1), var_lie gtab2 hv2 (ints_lie Tryd.underlying56 Tryd.underlying5 (by kernel_rfl) (by kernel_rfl) ltab2 hd2), var_lie gtab3 hv3 (ints_lie Tryd.underlying53 Tryd.underlying5 (by kernel_rfl) (by kernel_rfl) ltab3 hd3)⟩
theorem tab_at0 {w : World} (h : Tab w) {k : Nat} {x : Int} (hx : tab0[k]? = some x) : w.cell? ⟨2, k, none⟩ = some (.int .u32 x) := by
  obtain ⟨ty, fr, hb⟩ := h.1
  simp only [World.cell?, hb]
  rw [List.getElem?_toArray, List.getElem?_map, hx]
  rfl
theorem tab_at1 {w : World} (h : Tab w) {k : Nat} {x : Int} (hx : tab1[k]? = some x) : w.cell? ⟨3, k, none⟩ = some (.int .u32 x) := by
  obtain ⟨ty, fr, hb⟩ := h.2.1
  simp only [World.cell?, hb]
  rw [List.getElem?_toArray, List.getElem?_map, hx]
  rfl
theorem tab_at2 {w : World} (h : Tab w) {k : Nat} {x : Int} (hx : tab2[k]? = some x) : w.cell? ⟨0, k, none⟩ = some (.int .u8 x) := by
  obtain ⟨ty, fr, hb⟩ := h.2.2.1
  simp only [World.cell?, hb]
  rw [List.getElem?_toArray, List.getElem?_map, hx]
  rfl
theorem tab_at3 {w : World} (h : Tab w) {k : Nat} {x : Int} (hx : tab3[k]? = some x) : w.cell? ⟨1, k, none⟩ = some (.int .u8 x) := by
  obtain ⟨ty, fr, hb⟩ := h.2.2.2
  simp only [World.cell?, hb]
  rw [List.getElem?_toArray, List.getElem?_map, hx]
  rfl
end Go.Proofs.YtikokgngkagieaaDoor
