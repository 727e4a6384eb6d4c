/- Several texts in one, none of a statement by itself: Crv, Sv, Lay, Sa, Sb, Sc, Va, Vd, Cla, Clb, Clf, Clg. -/
import Derived.Test.YtkncbanodpfccaaDoorCru
import Derived.Deep.DeepCutAuto
import Derived.Test.YtkncbanodpfccaaDoorBoundB
import Derived.Test.YtkncbanodpfccaaDoorBoundA
import Derived.BigQuiet
import Derived.Laws.StructEq
import Derived.Deep.QuietTactic
import Derived.ProofKit
import Derived.LaidMore
import Derived.OpenShut
import Derived.Stop.Joined
import Derived.SizedLaws
import Derived.Deep.WholeRow
import Derived.Test.YtkncbanodpfccaaDoorBoundD
import Derived.Deep.RegionLaw
/- The document's own Legal and Of; of no statement by themselves. -/
namespace Go.Proofs.YtkncbanodpfccaaDoor
open Go.RowKit
open St12
set_option linter.unusedVariables false
set_option linter.unusedSimpArgs false
theorem cells8f {w : World} {a : Nat} {x0 x1 x2 x3 x4 x5 x6 x7 : Value} {t : TypeId} (h : w.heap[a]? = some (.cells #[x0, x1, x2, x3, x4, x5, x6, x7] t (0, 0))) : w.cell? ⟨a, 0, none⟩ = some x0 ∧ w.cell? ⟨a, 1, none⟩ = some x1 ∧ w.cell? ⟨a, 2, none⟩ = some x2 ∧ w.cell? ⟨a, 3, none⟩ = some x3 ∧ w.cell? ⟨a, 4, none⟩ = some x4 ∧ w.cell? ⟨a, 5, none⟩ = some x5 ∧ w.cell? ⟨a, 6, none⟩ = some x6 ∧ w.cell? ⟨a, 7, none⟩ = some x7 :=
  ⟨by simp [World.cell?, h], by simp [World.cell?, h], by simp [World.cell?, h], by simp [World.cell?, h], by simp [World.cell?, h], by simp [World.cell?, h], by simp [World.cell?, h], by simp [World.cell?, h]⟩
theorem cells3f {w : World} {a : Nat} {x0 x1 x2 : Value} {t : TypeId} (h : w.heap[a]? = some (.cells #[x0, x1, x2] t (0, 0))) : w.cell? ⟨a, 0, none⟩ = some x0 ∧ w.cell? ⟨a, 1, none⟩ = some x1 ∧ w.cell? ⟨a, 2, none⟩ = some x2 :=
  ⟨by simp [World.cell?, h], by simp [World.cell?, h], by simp [World.cell?, h]⟩
end Go.Proofs.YtkncbanodpfccaaDoor

/- What is asked of the program's states ('StSpec'), and the answers that the document fixes; of no statement by itself. -/
namespace Go.Proofs.YtkncbanodpfccaaDoor
open Go.RowKit
open St12
set_option linter.unusedVariables false
set_option linter.unusedSimpArgs false

def stv (s : Stt) : Value := .agg #[.int .i64 s.n, .int .i64 s.a, .int .i64 s.b, .int .i64 s.c, .int .i64 s.d]
def syv (y : Sym) : Value := .agg #[.int .i64 y.k, .int .u8 y.y, .int .i64 y.l, .int .i64 y.d]
def prv (p : Prp) : Value := .agg #[.int .i64 p.lc, .int .i64 p.lp, .int .i64 p.pb]
structure Stt.I (s : Stt) : Prop where
  n : I64 s.n
  a : I64 s.a
  b : I64 s.b
  c : I64 s.c
  d : I64 s.d
structure Sym.I (y : Sym) : Prop where
  k : I64 y.k
  l : I64 y.l
  d : I64 y.d
  y : 0 ≤ y.y ∧ y.y ≤ 255
structure Prp.I (p : Prp) : Prop where
  lc : I64 p.lc
  lp : I64 p.lp
  pb : I64 p.pb
structure StSpec (Tab : World → Prop) : Prop where
  keep : ∀ {w w'}, Tab w → Chg (fun _ => False) w w' → Tab w'
theorem nxt_fix : nxt st0 ⟨2, 0, 5, 9⟩ = (⟨7, 9, 1, 1, 1⟩, 0) := by kernel_rfl
theorem slot_fix : slotA 13 = (7, 0) := by decide +kernel
theorem byte_fix : byteP ⟨3, 0, 2⟩ = (93, 0) := by decide +kernel
theorem cells5 {w : World} {a : Nat} {x y z u v : Value} {t : TypeId} (h : w.heap[a]? = some (.cells #[x, y, z, u, v] t (0, 0))) : w.cell? ⟨a, 0, none⟩ = some x ∧ w.cell? ⟨a, 1, none⟩ = some y ∧ w.cell? ⟨a, 2, none⟩ = some z ∧ w.cell? ⟨a, 3, none⟩ = some u ∧ w.cell? ⟨a, 4, none⟩ = some v :=
  ⟨by simp [World.cell?, h], by simp [World.cell?, h], by simp [World.cell?, h], by simp [World.cell?, h], by simp [World.cell?, h]⟩
end Go.Proofs.YtkncbanodpfccaaDoor

/- The tables that the program's own text lays; of no statement by itself. -/
namespace Go.Proofs.YtkncbanodpfccaaDoor
open Go.ChangeShapes Go.WideShapes Go.ChangeAt Go.WideMaps Go.WideElems Go.RowKit
set_option linter.unusedVariables false

/-- An array of whole numbers that reads so lies so. -/
theorem ints_lie {W : World} {m : Nat} {t e : TypeId} {q : IntKind} {cs : List Value} {l : List Int} {f : Nat} {p : List MemPlace} {H : Type} {enc : TypeId × Value → H} {sp : TypeId → Bool} {held : Bool} (hu : Tryd.prog.underlying t = some (.array m e)) (he : Tryd.prog.underlying e = some (.int q)) (hce : Tryd.prog.cellsOf e = 1) (hct : Tryd.prog.cellsOf t = m)
    {d : DataW H} (hde : d = .agg (l.map fun (x : Int) => .lit (.int q x))) (hd : DataW.trod enc Tryd.prog W 0 sp held f t cs = some (d, p)) : cs = l.map (Value.int q) := by
  subst hde
  obtain ⟨xs, k, rfl, hx, hlen, hn, hel⟩ := DataW.trod_array hu hd
  simp only [Prod.mk.injEq, DataW.agg.injEq] at hx
  have hl : l.length = m := by
    have := congrArg List.length hx.1
    simp only [List.length_map] at this
    omega
  apply List.ext_getElem
  · rw [hlen, hct, List.length_map, hl]
  · intro i h1 h2
    have hi : i < m := by rw [List.length_map, hl] at h2; exact h2
    have h0 := hel i hi
    rw [hce, Nat.mul_one] at h0
    obtain ⟨y, hy⟩ : ∃ y, xs[i]? = some y := ⟨xs[i]'(by omega), List.getElem?_eq_getElem _⟩
    rw [hy] at h0
    obtain ⟨z, e1, e2, _⟩ := DataW.trod_int he h0
    have hz : (xs.map (·.1))[i]? = some (.lit (.int q z)) := by rw [List.getElem?_map, hy, e2]; rfl
    rw [← hx.1, List.getElem?_map, List.getElem?_eq_getElem (by omega)] at hz
    simp only [Option.map_some, Option.some.injEq, DataW.lit.injEq, Lit.int.injEq, true_and] at hz
    have h3 : ((cs.drop i).take 1)[0]? = some (.int q z) := by rw [e1]; rfl
    have h4 : cs[i]? = some (.int q z) := by simpa using h3
    have h5 : cs[i] = .int q z := by simpa [h1] using h4
    rw [h5, ← hz]
    simp
theorem flat_lie {f : Int → Value} {m : Nat} : ∀ (ll : List (List Int)) (cs : List Value), cs.length = ll.length * m → (∀ i l, ll[i]? = some l → (cs.drop (i * m)).take m = l.map f) → cs = ll.flatten.map f
  | [], cs, hl, _ => by
    have : cs.length = 0 := by simpa using hl
    simpa using this
  | l :: ll, cs, hl, h => by
    have h0 := h 0 l rfl
    rw [Nat.zero_mul, List.drop_zero] at h0
    have hr := flat_lie (f := f) (m := m) ll (cs.drop m) (by rw [List.length_drop, hl, List.length_cons, Nat.add_mul, Nat.one_mul]; omega) (fun i l' hi => by
      have := h (i + 1) l' hi
      rw [List.drop_drop]
      rw [show m + i * m = (i + 1) * m by rw [Nat.add_mul, Nat.one_mul, Nat.add_comm]]
      exact this)
    rw [List.flatten_cons, List.map_append, ← h0, ← hr, List.take_append_drop]
/-- An array of such arrays. -/
theorem rows_lie {W : World} {n m : Nat} {t t1 e : TypeId} {q : IntKind} {cs : List Value} {ll : List (List Int)} {f : Nat} {p : List MemPlace} {H : Type} {enc : TypeId × Value → H} {sp : TypeId → Bool} {held : Bool} (hu : Tryd.prog.underlying t = some (.array n t1)) (hu1 : Tryd.prog.underlying t1 = some (.array m e)) (he : Tryd.prog.underlying e = some (.int q)) (hce : Tryd.prog.cellsOf e = 1) (hc1 : Tryd.prog.cellsOf t1 = m) (hct : Tryd.prog.cellsOf t = n * m)
    {d : DataW H} (hde : d = .agg (ll.map fun l => .agg (l.map fun (x : Int) => .lit (.int q x)))) (hd : DataW.trod enc Tryd.prog W 0 sp held f t cs = some (d, p)) : cs = ll.flatten.map (Value.int q) := by
  subst hde
  obtain ⟨xs, k, rfl, hx, hlen, hn, hel⟩ := DataW.trod_array hu hd
  simp only [Prod.mk.injEq, DataW.agg.injEq] at hx
  have hl : ll.length = n := by
    have := congrArg List.length hx.1
    simp only [List.length_map] at this
    omega
  refine flat_lie (m := m) ll cs (by rw [hlen, hct, hl]) (fun i l hi => ?_)
  have hin : i < n := by have := (List.getElem?_eq_some_iff.1 hi).1; omega
  have h0 := hel i hin
  rw [hc1] at h0
  obtain ⟨y, hy⟩ : ∃ y, xs[i]? = some y := ⟨xs[i]'(by omega), List.getElem?_eq_getElem _⟩
  rw [hy] at h0
  have hz : (xs.map (·.1))[i]? = some y.1 := by rw [List.getElem?_map, hy]; rfl
  rw [← hx.1, List.getElem?_map, hi] at hz
  simp only [Option.map_some, Option.some.injEq] at hz
  exact ints_lie hu1 he hce hc1 (d := y.1) (p := y.2) hz.symm h0
theorem var_lie {W : World} {g : Nat} {name : String} {cs : Array Value} {l : List Value} (hg : Tryd.prog.globalNamed name = some g) (hv : W.var? Tryd.prog name = some cs) (h : cs.toList = l) : ∃ ty fr, W.heap[g]? = some (.cells l.toArray ty fr) := by
  simp only [World.var?, hg, Option.bind_some] at hv
  cases hq : W.heap[g]? with
  | none => rw [hq] at hv; cases hv
  | some o =>
    cases o with
    | cells c ty fr =>
      rw [hq] at hv
      simp only [Option.some.injEq] at hv
      exact ⟨ty, fr, by rw [hv, ← h]⟩
    | _ => rw [hq] at hv; cases hv
/-- pith/crc.half32, as it is laid. -/
def tab0 : List Int := [0, 498536548, 997073096, 651767980, 1994146192, 1802195444, 1303535960, 1342533948, 3988292384, 4027552580, 3604390888, 3412177804, 2607071920, 2262029012, 2685067896, 3183342108]
theorem gtab0 : Tryd.prog.globalNamed "pith/crc.half32" = some 1 := by kernel_rfl
theorem ttab0 : (Tryd.prog.globals[1]?).map (·.type) = some 136 := by kernel_rfl
theorem ltab0 {H : Type} : (Rows.laid_pith_crc_half32 : DataW H) = .agg (tab0.map fun (x : Int) => .lit (.int .u32 x)) := rfl
/-- pith/varint.bounds, as it is laid. -/
def tab1 : List Int := [128, 16384, 2097152, 268435456, 34359738368, 4398046511104, 562949953421312, 72057594037927936]
theorem gtab1 : Tryd.prog.globalNamed "pith/varint.bounds" = some 0 := by kernel_rfl
theorem ttab1 : (Tryd.prog.globals[0]?).map (·.type) = some 135 := by kernel_rfl
theorem ltab1 {H : Type} : (Rows.laid_pith_varint_bounds : DataW H) = .agg (tab1.map fun (x : Int) => .lit (.int .u64 x)) := rfl
/-- The tables lie there. -/
def Tab (w : World) : Prop := (∃ ty fr, w.heap[1]? = some (.cells (tab0.map (Value.int .u32)).toArray ty fr)) ∧ (∃ ty fr, w.heap[0]? = some (.cells (tab1.map (Value.int .u64)).toArray ty fr))
theorem tab_keep {w w' : World} (h : Tab w) (hc : Chg (fun _ => False) w w') : Tab w' := by
  obtain ⟨⟨y0, r0, h0⟩, ⟨y1, r1, h1⟩⟩ := h
  exact ⟨⟨y0, r0, blk_keep h0 hc (fun f => f)⟩, ⟨y1, r1, blk_keep h1 hc (fun f => f)⟩⟩
theorem tab_of_laid {W : World} (h : laidMetH Tryd.prog [("pith/crc.half32", Rows.laid_pith_crc_half32), ("pith/varint.bounds", Rows.laid_pith_varint_bounds)] W) : Tab W := by
  rw [MakeChecks.laidMetH_plain _ _ _ (by kernel_rfl)] at h
  obtain ⟨ps, ⟨g0, t0, cs0, f0, p0, q0, hg0, ht0, hv0, hd0, ⟨g1, t1, cs1, f1, p1, q1, hg1, ht1, hv1, hd1, _⟩, _⟩, _, _⟩ := h
  obtain rfl := Option.some.inj (gtab0.symm.trans hg0)
  obtain rfl := Option.some.inj (ttab0.symm.trans ht0)
  obtain rfl := Option.some.inj (gtab1.symm.trans hg1)
  obtain rfl := Option.some.inj (ttab1.symm.trans ht1)
  exact ⟨var_lie gtab0 hv0 (ints_lie Tryd.underlying136 Tryd.underlying38 (by kernel_rfl) (by kernel_rfl) ltab0 hd0), var_lie gtab1 hv1 (ints_lie Tryd.underlying135 Tryd.underlying52 (by kernel_rfl) (by kernel_rfl) ltab1 hd1)⟩
theorem tab_at0 {w : World} (h : Tab w) {k : Nat} {x : Int} (hx : tab0[k]? = some x) : w.cell? ⟨1, k, none⟩ = some (.int .u32 x) := by
  obtain ⟨ty, fr, hb⟩ := h.1
  simp only [World.cell?, hb]
  rw [List.getElem?_toArray, List.getElem?_map, hx]
  rfl
theorem tab_at1 {w : World} (h : Tab w) {k : Nat} {x : Int} (hx : tab1[k]? = some x) : w.cell? ⟨0, k, none⟩ = some (.int .u64 x) := by
  obtain ⟨ty, fr, hb⟩ := h.2
  simp only [World.cell?, hb]
  rw [List.getElem?_toArray, List.getElem?_map, hx]
  rfl
end Go.Proofs.YtkncbanodpfccaaDoor

/- The document's states; of no statement by itself. -/
namespace Go.Proofs.YtkncbanodpfccaaDoor
open Go.RowKit
open St12
set_option linter.unusedVariables false
set_option linter.unusedSimpArgs false

theorem pow_int (k : Nat) : (2 : Int) ^ k = ((2 ^ k : Nat) : Int) := by simp
end Go.Proofs.YtkncbanodpfccaaDoor

/- The document's properties; of no statement by itself. -/
namespace Go.Proofs.YtkncbanodpfccaaDoor
open Go.RowKit
open St12
set_option linter.unusedVariables false
set_option linter.unusedSimpArgs false

theorem cells3s {w : World} {a : Nat} {x y z : Value} {t : TypeId} (h : w.heap[a]? = some (.cells #[x, y, z] t (0, 0))) : w.cell? ⟨a, 0, none⟩ = some x ∧ w.cell? ⟨a, 1, none⟩ = some y ∧ w.cell? ⟨a, 2, none⟩ = some z ∧ w.frozen? ⟨a, 0, none⟩ = false ∧ w.frozen? ⟨a, 1, none⟩ = false ∧ w.frozen? ⟨a, 2, none⟩ = false :=
  ⟨by simp [World.cell?, h], by simp [World.cell?, h], by simp [World.cell?, h], by simp [World.frozen?, h], by simp [World.frozen?, h], by simp [World.frozen?, h]⟩
theorem set_blk {w : World} {g i : Nat} {cs : Array Value} {t : TypeId} (u : Value) (h : w.heap[g]? = some (.cells cs t (0, 0))) : (w.setCell ⟨g, i, none⟩ u).heap[g]? = some (.cells (cs.setIfInBounds i u) t (0, 0)) := by
  have hlt := lt_of_blk h
  have h' : w.heap[g] = .cells cs t (0, 0) := by simpa [Array.getElem?_eq_getElem hlt] using h
  show (w.heap.modify g _)[g]? = _
  rw [Array.getElem?_eq_getElem (by simpa using hlt), Array.getElem_modify_self, h']
  rfl
/-- A store of three cells. -/
theorem store3 {W : World} {g : Nat} {x y z : Value} {t : TypeId} (h : W.heap[g]? = some (.cells #[x, y, z] t (0, 0))) (a b c : Value) : (W.cell? ⟨g, 0, none⟩ = some x ∧ W.frozen? ⟨g, 0, none⟩ = false) ∧ ((W.setCell ⟨g, 0, none⟩ a).cell? ⟨g, 1, none⟩ = some y ∧ (W.setCell ⟨g, 0, none⟩ a).frozen? ⟨g, 1, none⟩ = false) ∧ (((W.setCell ⟨g, 0, none⟩ a).setCell ⟨g, 1, none⟩ b).cell? ⟨g, 2, none⟩ = some z ∧ ((W.setCell ⟨g, 0, none⟩ a).setCell ⟨g, 1, none⟩ b).frozen? ⟨g, 2, none⟩ = false) ∧
    ((((W.setCell ⟨g, 0, none⟩ a).setCell ⟨g, 1, none⟩ b).setCell ⟨g, 2, none⟩ c).heap[g]? = some (.cells #[a, b, c] t (0, 0)) ∧ Chg (fun q => q = g) W (((W.setCell ⟨g, 0, none⟩ a).setCell ⟨g, 1, none⟩ b).setCell ⟨g, 2, none⟩ c)) := by
  have h1 : (W.setCell ⟨g, 0, none⟩ a).heap[g]? = some (.cells #[a, y, z] t (0, 0)) := set_blk a h
  have h2 : ((W.setCell ⟨g, 0, none⟩ a).setCell ⟨g, 1, none⟩ b).heap[g]? = some (.cells #[a, b, z] t (0, 0)) := set_blk b h1
  have h3 : (((W.setCell ⟨g, 0, none⟩ a).setCell ⟨g, 1, none⟩ b).setCell ⟨g, 2, none⟩ c).heap[g]? = some (.cells #[a, b, c] t (0, 0)) := set_blk c h2
  have k0 := cells3s h
  have k1 := cells3s h1
  have k2 := cells3s h2
  exact ⟨⟨k0.1, k0.2.2.2.1⟩, ⟨k1.2.1, k1.2.2.2.2.1⟩, ⟨k2.2.2.1, k2.2.2.2.2.2⟩, h3, (((Chg.refl (fun q => q = g) W).setCell (p := ⟨g, 0, none⟩) (.inl rfl) a).setCell (p := ⟨g, 1, none⟩) (.inl rfl) b).setCell (p := ⟨g, 2, none⟩) (.inl rfl) c⟩
theorem byteP_nat (p q r : Nat) (h : r + q ≤ 4) (hp : p ≤ 4) : byteP ⟨(r : Int), (q : Int), (p : Int)⟩ = ((((5 * p + q) * 9 + r : Nat) : Int), 0) := by
  unfold byteP
  rw [if_pos (by unfold allow; simp only; omega)]
  congr 1
/-- None of those that were tried has the byte. -/
def None3 (b : Int) (P Q R : Nat) : Prop := ∀ p : Prp, allow p → (p.pb < P ∨ (p.pb = P ∧ (p.lp < Q ∨ (p.lp = Q ∧ p.lc < R)))) → (5 * p.pb + p.lp) * 9 + p.lc ≠ b
theorem propsB_found {b : Int} {p : Prp} (h : allow p) (hb : (5 * p.pb + p.lp) * 9 + p.lc = b) : propsB b = (p, 0) := by
  have ht := told_of h
  rw [hb] at ht
  have hh := h
  obtain ⟨⟨h1, h2, h3⟩, h4, h5⟩ := hh
  unfold propsB
  rw [if_neg (by omega), ht, if_pos h]
theorem propsB_none {b : Int} (hb : 0 ≤ b ∧ b ≤ 255) (h : None3 b 5 0 0) : propsB b = (⟨0, 0, 0⟩, 2) := by
  unfold propsB
  rw [if_neg (by simpa using hb), if_neg]
  intro ha
  have hh := ha
  obtain ⟨⟨h1, h2, h3⟩, h4, h5⟩ := hh
  refine h (told b) ha (.inl (by show _ < ((5 : Nat) : Int); omega)) ?_
  refine of_told b ⟨hb.1, ?_⟩
  have : (told b).pb = b / 45 := rfl
  omega
end Go.Proofs.YtkncbanodpfccaaDoor

/- The document's moves; of no statement by itself. -/
namespace Go.Proofs.YtkncbanodpfccaaDoor
open Go.RowKit
open St12
set_option linter.unusedVariables false
set_option linter.unusedSimpArgs false

theorem cells5f {w : World} {a : Nat} {x0 x1 x2 x3 x4 : Value} {t : TypeId} (h : w.heap[a]? = some (.cells #[x0, x1, x2, x3, x4] t (0, 0))) : (w.frozen? ⟨a, 0, none⟩ = false ∧ w.frozen? ⟨a, 1, none⟩ = false ∧ w.frozen? ⟨a, 2, none⟩ = false ∧ w.frozen? ⟨a, 3, none⟩ = false ∧ w.frozen? ⟨a, 4, none⟩ = false) :=
  ⟨by simp [World.frozen?, h], by simp [World.frozen?, h], by simp [World.frozen?, h], by simp [World.frozen?, h], by simp [World.frozen?, h]⟩
/-- The distance number i. -/
def repI (s : Stt) (i : Nat) : Int := match i with | 0 => s.a | 1 => s.b | 2 => s.c | _ => s.d
theorem right_iff (s : Stt) : right s ↔ (0 ≤ s.n ∧ s.n ≤ 11) ∧ ∀ i, i < 4 → okR (repI s i) := by
  unfold right
  constructor
  · rintro ⟨h, a, b, c, d⟩
    refine ⟨h, fun i hi => ?_⟩
    rcases i with _ | _ | _ | _ | i
    · exact a
    · exact b
    · exact c
    · exact d
    · omega
  · rintro ⟨h, f⟩
    exact ⟨h, f 0 (by omega), f 1 (by omega), f 2 (by omega), f 3 (by omega)⟩
theorem rep_cell {w : World} {g : Nat} {s : Stt} {t : TypeId} (h : w.heap[g]? = some (.cells #[.int .i64 s.n, .int .i64 s.a, .int .i64 s.b, .int .i64 s.c, .int .i64 s.d] t (0, 0))) {i : Nat} (hi : i < 4) : w.cell? ⟨g, 1 + i, none⟩ = some (.int .i64 (repI s i)) := by
  rcases i with _ | _ | _ | _ | i
  · simp [World.cell?, h, repI]
  · simp [World.cell?, h, repI]
  · simp [World.cell?, h, repI]
  · simp [World.cell?, h, repI]
  · omega
end Go.Proofs.YtkncbanodpfccaaDoor

/- The program's small questions; of no statement by themselves. -/
namespace Go.Proofs.YtkncbanodpfccaaDoor
open Go.RowKit
open St12
set_option linter.unusedVariables false
set_option linter.unusedSimpArgs false

end Go.Proofs.YtkncbanodpfccaaDoor

/- The program's properties; of no statement by itself. -/
namespace Go.Proofs.YtkncbanodpfccaaDoor
open Go.RowKit
open St12
set_option linter.unusedVariables false
set_option linter.unusedSimpArgs false

theorem cells3c {w : World} {a : Nat} {x y z : Value} {t : TypeId} (h : w.heap[a]? = some (.cells #[x, y, z] t (0, 0))) : w.cell? ⟨a, 0, none⟩ = some x ∧ w.cell? ⟨a, 1, none⟩ = some y ∧ w.cell? ⟨a, 2, none⟩ = some z :=
  ⟨by simp [World.cell?, h], by simp [World.cell?, h], by simp [World.cell?, h]⟩
end Go.Proofs.YtkncbanodpfccaaDoor

/- The small questions of a chain: kinds of checks, properties, bounds; of no statement by themselves. -/
namespace Go.Proofs.YtkncbanodpfccaaDoor
open Go.RowKit
open St12
set_option linter.unusedVariables false
set_option linter.unusedSimpArgs false
theorem wpList_store_new {P : Program} {ops : Array Oper} {rest : List Oper} {op : Oper} {a : Act} {w : World} {Q : Exit → Act → World → Prop} (hgd : op.guard = none) (ty : TypeId) (x y : Operand) (ho : op.op = .store ty x y)
    (c cells : Array Value) (hx : a.eval x = .pointer (some ⟨w.heap.size, 0, none⟩)) (hy : a.eval y = .agg cells)
    (hi : (P.info? ty).map (·.size) = some cells.size) (hs : c.size = cells.size) (h1 : cells.all (·.oneCell') = true)
    (h : wpList P ops Q rest (a.put op.dst undef) (w.alloc (.cells cells ty))) : wpList P ops Q (op :: rest) a (w.alloc (.cells c ty)) :=
  wpList_plain hgd fun K hK => by
    unfold Oper.wp execOp
    simp only [ho, hx, hy, Sem.run_bind, Sem.run_pure, Result.andThen_ok, run_storeAt_new w ty c cells hi hs h1]
    exact hK _ _ h
theorem res16 {P : Program} {fn : Func} {p : Tmp} {ty : TypeId} (h : fn.results = #[.cell p ty]) (tmps : Array Value) (w : World) {ad : Addr} {v : Value} (hp : (loadVar ty ad).run P w = .ok v w) (ha : tmps.getD p undef = .pointer (some ad) := by rfl) : (results fn tmps).run P w = .ok v w := by
  have e : tmps[p]?.getD undef = .pointer (some ad) := by simpa using ha
  simp only [results, h]
  simp [Sem.run_bind, Result.andThen, e, asAddr, hp]
end Go.Proofs.YtkncbanodpfccaaDoor

/- The program's Legal; of no statement by itself. -/
namespace Go.Proofs.YtkncbanodpfccaaDoor
open Go.RowKit
open St12
set_option linter.unusedVariables false
set_option linter.unusedSimpArgs false
def nil16 : Nat → Bool
  | 0 | 1 | 4 | 10 => false
  | _ => true
theorem nil16_is (k : Nat) (hk : k < 16) : nil16 k = !decide ((k : Int) = 0 ∨ (k : Int) = 1 ∨ (k : Int) = 4 ∨ (k : Int) = 10) := by
  rcases k with _ | _ | _ | _ | _ | _ | _ | _ | _ | _ | _ | _ | _ | _ | _ | _ | k
  all_goals first | omega | decide
end Go.Proofs.YtkncbanodpfccaaDoor

/- The program's filter and Of; of no statement by itself. -/
namespace Go.Proofs.YtkncbanodpfccaaDoor
open Go.RowKit
open St12
set_option linter.unusedVariables false
set_option linter.unusedSimpArgs false
end Go.Proofs.YtkncbanodpfccaaDoor

/- The program's filters that are known, and what takes one; of no statement by itself. -/
namespace Go.Proofs.YtkncbanodpfccaaDoor
open Go.RowKit
open St12
set_option linter.unusedVariables false
set_option linter.unusedSimpArgs false
theorem known20_q (w : World) : Calls Tryd.prog 29 #[] w fun e w' => e = .returned (.slice (some ⟨w.heap.size, 0, none⟩) 2 2) ∧ w' = w.alloc (.cells #[.int .u64 3, .func (.func 53) #[] #[], .int .u64 33, .func (.func 54) #[] #[]] 72) := by
  go_enter Tryd.func29, Tryd.ntmps29
  go_wp2
  go_ret
  exact ⟨rfl, rfl⟩
theorem setB0 {w : World} {B : Nat} {x y u : Value} {t : TypeId} (h : w.heap[B]? = some (.cells #[x, y] t (0, 0))) : (w.setCell ⟨B, 0, none⟩ u).heap[B]? = some (.cells #[u, y] t (0, 0)) := blk_set0 h
theorem readDist20 (x : Nat) (hx : x ≤ 255) (B : Nat) (u v : Value) (w : World) (hb : w.heap[B]? = some (.cells #[u, v] 69 (0, 0))) : Calls Tryd.prog 53 #[.int .u8 (x : Int), .pointer (some ⟨B, 0, none⟩)] w fun e w' => e = .returned (.int .i64 0) ∧ w'.heap[B]? = some (.cells #[.int .i64 ((x : Int) + 1), v] 69 (0, 0)) ∧ Chg (fun g => g = B) w w' := by
  have HB : Hid (w.heap[B]? = some (.cells #[u, v] 69 (0, 0))) := hb
  have t0 := cell0 hb
  have f0 := free0 hb
  have hi : (x : Int) ≤ 255 := by omega
  clear hb
  go_enter Tryd.func53, Tryd.ntmps53
  go_wp2
  go_ret
  exact ⟨rfl, blk_set0 HB.out, Chg.setCell (S := fun g => g = B) (Chg.refl _ w) (p := ⟨B, 0, none⟩) (.inl rfl) _⟩
theorem readDict20 (x : Nat) (hx : x ≤ 255) (B : Nat) (u v : Value) (w : World) (hb : w.heap[B]? = some (.cells #[u, v] 69 (0, 0))) : Calls Tryd.prog 54 #[.int .u8 (x : Int), .pointer (some ⟨B, 0, none⟩)] w fun e w' => e = .returned (.int .i64 (Ck17.byteD (x : Int)).2) ∧ w'.heap[B]? = some (.cells #[u, .int .i64 (Ck17.byteD (x : Int)).1] 69 (0, 0)) ∧ Chg (fun g => g = B) w w' := by
  have HB : Hid (w.heap[B]? = some (.cells #[u, v] 69 (0, 0))) := hb
  have t1 := cell1 hb
  have f1 := free1 hb
  have hi : (x : Int) ≤ 255 := by omega
  have HD : Hid _ := bd17_any (x : Int) (by unfold I64; omega) w
  generalize (Ck17.byteD (x : Int)).1 = D at *
  generalize (Ck17.byteD (x : Int)).2 = E at *
  clear hb
  go_enter Tryd.func54, Tryd.ntmps54
  go_wp2_with fail
  refine Calls.mono HD.out ?_
  rintro z w2 ⟨rfl, rfl⟩
  go_wp2
  go_ret
  exact ⟨rfl, blk_set1 HB.out, Chg.setCell (S := fun g => g = B) (Chg.refl _ _) (p := ⟨B, 1, none⟩) (.inl rfl) _⟩
/-- What is told so far, by states of the region that takes one. -/
def TkJ (W0 : World) (B : Nat) (C0 C1 : Array Value) (q : Nat) (ww : World) : Prop := Chg (fun g => g = B) W0 ww ∧ ww.heap[B]? = some (.cells (if q = 0 then C0 else C1) 69 (0, 0))
theorem take20_no (kid fid : Int) (F : Nat) (a : Option Addr) (n c : Nat) (p : Value) (w : World) (h : fid ≠ kid ∨ n ≠ 1) : Calls Tryd.prog 30 #[.agg #[.int .u64 kid, .func (.func F) #[] #[]], .agg #[.int .u64 fid, .slice a n c], p] w fun e w' => e = .returned (.int .i64 4) ∧ Chg (fun _ => False) w w' := by
  have HC : Hid (Chg (fun _ => False) w ((w.alloc (.cells #[.int .u64 kid, .func (.func F) #[] #[]] 72)).alloc (.cells #[.int .u64 fid, .slice a n c] 54))) := chg_then (chg_one _ _) (chg_one _ _)
  have cB := chg_one (w.alloc (.cells #[.int .u64 kid, .func (.func F) #[] #[]] 72)) (.cells #[.int .u64 fid, .slice a n c] 54)
  have bA := blk_keep (heap_alloc_last w (.cells #[.int .u64 kid, .func (.func F) #[] #[]] 72)) cB (fun f => f)
  have bB := heap_alloc_last (w.alloc (.cells #[.int .u64 kid, .func (.func F) #[] #[]] 72)) (.cells #[.int .u64 fid, .slice a n c] 54)
  rw [World.size_alloc] at bB
  have a0 := cell0 bA
  have b0 := cell0 bB
  have b1 := cell1 bB
  clear cB bA bB
  by_cases h1 : fid = kid
  · subst h1
    have hn : n ≠ 1 := by rcases h with h | h; exact absurd rfl h; exact h
    have d1 : (fid != fid) = false := by simp
    have d2 : ((n : Int) != 1) = true := by simp; omega
    clear h hn
    go_enter Tryd.func30, Tryd.ntmps30
    go_wp2
    go_ret
    exact ⟨rfl, HC.out⟩
  · have d1 : (fid != kid) = true := by simp [h1]
    clear h h1
    go_enter Tryd.func30, Tryd.ntmps30
    go_wp2
    go_ret
    exact ⟨rfl, HC.out⟩
set_option maxHeartbeats 4000000 in
set_option maxRecDepth 100000 in
theorem take20_yes (kid : Int) (F : Nat) (a : Option Addr) (c x : Nat) (hx : x ≤ 255) (B : Nat) (C0 C1 : Array Value) (E : Int) (w : World) (hr : Row8 w a 1 c (nums [x])) (hb : w.heap[B]? = some (.cells C0 69 (0, 0))) (hne : ∀ y : Addr, a = some y → y.block ≠ B)
    (hcf : ∀ args w, (callFunc F args).run Tryd.prog w = .ok (.enter F args) w)
    (hcl : ∀ ww : World, ww.heap[B]? = some (.cells C0 69 (0, 0)) → Calls Tryd.prog F #[.int .u8 (x : Int), .pointer (some ⟨B, 0, none⟩)] ww fun e w' => e = .returned (.int .i64 E) ∧ w'.heap[B]? = some (.cells C1 69 (0, 0)) ∧ Chg (fun g => g = B) ww w') :
    Calls Tryd.prog 30 #[.agg #[.int .u64 kid, .func (.func F) #[] #[]], .agg #[.int .u64 kid, .slice a 1 c], .pointer (some ⟨B, 0, none⟩)] w fun e w' => e = .returned (.int .i64 E) ∧ w'.heap[B]? = some (.cells C1 69 (0, 0)) ∧ Chg (fun g => g = B) w w' := by
  have HCL : Hid (∀ ww : World, ww.heap[B]? = some (.cells C0 69 (0, 0)) → Calls Tryd.prog F #[.int .u8 (x : Int), .pointer (some ⟨B, 0, none⟩)] ww fun e w' => e = .returned (.int .i64 E) ∧ w'.heap[B]? = some (.cells C1 69 (0, 0)) ∧ Chg (fun g => g = B) ww w') := hcl
  obtain ⟨b, off, rfl, kx⟩ := row8_at hr (by omega)
  have kx0 : w.cell? ⟨b, off, none⟩ = some (.int .u8 (x : Int)) := by simpa using kx 0 (by omega)
  have hbB : b ≠ B := hne _ rfl
  have cA := chg_one w (.cells #[.int .u64 kid, .func (.func F) #[] #[]] 72)
  have cB := chg_one (w.alloc (.cells #[.int .u64 kid, .func (.func F) #[] #[]] 72)) (.cells #[.int .u64 kid, .slice (some ⟨b, off, none⟩) 1 c] 54)
  have bA := blk_keep (heap_alloc_last w (.cells #[.int .u64 kid, .func (.func F) #[] #[]] 72)) cB (fun f => f)
  have bB := heap_alloc_last (w.alloc (.cells #[.int .u64 kid, .func (.func F) #[] #[]] 72)) (.cells #[.int .u64 kid, .slice (some ⟨b, off, none⟩) 1 c] 54)
  rw [World.size_alloc] at bB
  have a0 := cell0 bA
  have b0 := cell0 bB
  have b1 := cell1 bB
  have HC0 : Hid (Chg (fun _ => False) w ((w.alloc (.cells #[.int .u64 kid, .func (.func F) #[] #[]] 72)).alloc (.cells #[.int .u64 kid, .slice (some ⟨b, off, none⟩) 1 c] 54))) := chg_then cA cB
  have HB0 : Hid (((w.alloc (.cells #[.int .u64 kid, .func (.func F) #[] #[]] 72)).alloc (.cells #[.int .u64 kid, .slice (some ⟨b, off, none⟩) 1 c] 54)).heap[B]? = some (.cells C0 69 (0, 0))) := blk_keep hb HC0.out (fun f => f)
  have hBG : B < w.heap.size := lt_of_blk hb
  have HBK : Hid (∀ ww, Chg (fun g => g = B) ((w.alloc (.cells #[.int .u64 kid, .func (.func F) #[] #[]] 72)).alloc (.cells #[.int .u64 kid, .slice (some ⟨b, off, none⟩) 1 c] 54)) ww → ww.heap[w.heap.size]? = some (.cells #[.int .u64 kid, .func (.func F) #[] #[]] 72 (0, 0)) ∧ ww.heap[w.heap.size + 1]? = some (.cells #[.int .u64 kid, .slice (some ⟨b, off, none⟩) 1 c] 54 (0, 0)) ∧ ww.cell? ⟨b, off, none⟩ = some (.int .u8 (x : Int))) := fun ww hc => by
    refine ⟨blk_keep bA hc (fun e => by omega), blk_keep bB hc (fun e => by omega), ?_⟩
    have h8 := cell_chg kx0 HC0.out
    have h9 := World.block_lt_of_cell? _ _ h8
    have h7 := hc.block b h9 hbB
    rw [← h8]
    simp only [World.cell?, h7]
  have hi : (x : Int) ≤ 255 := by omega
  clear cA cB bA bB hr hb hcl kx kx0
  go_enter Tryd.func30, Tryd.ntmps30
  go_upto_region 3 with fail
  generalize hWW : (w.alloc (.cells #[.int .u64 kid, .func (.func F) #[] #[]] 72)).alloc (.cells #[.int .u64 kid, .slice (some ⟨b, off, none⟩) 1 c] 54) = W0 at *
  have HW : Hid (Chg (fun _ => False) w W0) := HC0.out
  clear a0 b0 b1 HC0 hne hBG hWW
  refine wp_region_phaseQ (mk := fun u => #[_, _, _, _, _, _, _, _, _, _, _, _, _, _, _, _, _, _, u 18, u 19, u 20, u 21, u 22, u 23, u 24, u 25]) (G := lookG [(18, .pointer (some ⟨w.heap.size, 1, none⟩)), (19, .func (.func F) #[] #[]), (20, .pointer (some ⟨w.heap.size + 1, 1, none⟩)), (21, .slice (some ⟨b, off, none⟩) 1 c), (22, .pointer (some ⟨b, off, none⟩)), (23, .int .u8 (x : Int)), (24, .pointer (some ⟨B, 0, none⟩)), (25, .int .i64 E)]) (J := fun q u ww => TkJ W0 B C0 C1 q ww) [7] (fun i =>  1) ([]) (fun _ => undef) rfl (by kernel_rfl) 8 _ rfl rfl (by kernel_rfl) (by kernel_rfl) (by kernel_rfl) (by decide) ?_ ?_ ?_ (by kernel_rfl) ?_ ?_
  · repeat (refine ⟨fun _ _ => rfl, ?_⟩)
    exact trivial
  · exact fun q u u2 ww _ h => h
  · exact ⟨(Chg.refl _ _).drew, HB0.out⟩
  · refine ⟨?_, ?_, ?_, ?_, ?_, ?_, ?_, ?_, trivial⟩
    · show StepRQ _ _ _ _ _ _ _ _ _ -- 18
      unfold StepRQ
      intro qn hq u w_ hj hd K hK
      clear hd
      clear hj
      go_simp
      exact hK.out _ rfl
    · show StepRQ _ _ _ _ _ _ _ _ _ -- 19
      unfold StepRQ
      intro qn hq u w_ hj hd K hK
      have h18 : u 18 = .pointer (some ⟨w.heap.size, 1, none⟩) := hd.get 0 (by kernel_rfl)
      clear hd
      simp only [h18] at hK
      have k1 := cell1 (HBK.out w_ hj.1).1
      clear hj
      go_simp
      exact hK.out _ rfl
    · show StepRQ _ _ _ _ _ _ _ _ _ -- 20
      unfold StepRQ
      intro qn hq u w_ hj hd K hK
      clear hd
      clear hj
      go_simp
      exact hK.out _ rfl
    · show StepRQ _ _ _ _ _ _ _ _ _ -- 21
      unfold StepRQ
      intro qn hq u w_ hj hd K hK
      have h20 : u 20 = .pointer (some ⟨w.heap.size + 1, 1, none⟩) := hd.get 2 (by kernel_rfl)
      clear hd
      simp only [h20] at hK
      have k1 := cell1 (HBK.out w_ hj.1).2.1
      clear hj
      go_simp
      exact hK.out _ rfl
    · show StepRQ _ _ _ _ _ _ _ _ _ -- 22
      unfold StepRQ
      intro qn hq u w_ hj hd K hK
      have h21 : u 21 = .slice (some ⟨b, off, none⟩) 1 c := hd.get 3 (by kernel_rfl)
      clear hd
      simp only [h21] at hK
      clear hj
      go_simp
      exact hK.out _ rfl
    · show StepRQ _ _ _ _ _ _ _ _ _ -- 23
      unfold StepRQ
      intro qn hq u w_ hj hd K hK
      have h22 : u 22 = .pointer (some ⟨b, off, none⟩) := hd.get 4 (by kernel_rfl)
      clear hd
      simp only [h22] at hK
      have k1 := (HBK.out w_ hj.1).2.2
      clear hj
      go_simp
      exact hK.out _ rfl
    · show StepRQ _ _ _ _ _ _ _ _ _ -- 24
      unfold StepRQ
      intro qn hq u w_ hj hd K hK
      clear hd
      clear hj
      go_simp
      exact hK.out _ rfl
    · show StepWQ _ _ _ _ _ _ _ _ _ -- 25
      unfold StepWQ
      intro u w_ hj hd K hK
      have h19 : u 19 = .func (.func F) #[] #[] := hd.get 1 (by kernel_rfl)
      have h23 : u 23 = .int .u8 (x : Int) := hd.get 5 (by kernel_rfl)
      have h24 : u 24 = .pointer (some ⟨B, 0, none⟩) := hd.get 6 (by kernel_rfl)
      clear hd
      simp only [h19, h23, h24] at hK
      have HJ : Hid _ := hj
      clear hj
      go_simp
      refine Calls.mono (HCL.out w_ HJ.out.2) ?_
      rintro z w2 ⟨rfl, hb2, c2⟩
      exact hK.out _ w2 ⟨HJ.out.1.trans c2 (fun _ e => .inl e), hb2⟩ rfl
  · intro u w7 hj hA K hK
    have HJ : Hid _ := hj
    have he : u 25 = .int .i64 E := hA.at 25 (by kernel_rfl)
    clear hj hA
    simp only [he] at hK ⊢
    go_simp
    refine hK.out _ _ ?_
    go_wp2
    go_ret
    exact ⟨rfl, HJ.out.2, (HW.out.mono (fun _ f => f.elim)).trans HJ.out.1 (fun _ e => .inl e)⟩
/-- What a filter of this number tells: the error, what is told then. -/
def tkE (id : Nat) (f : Flt) : Int := match Cn20.one f id with | none => 4 | some x => if id = 3 then 0 else (Ck17.byteD (x : Int)).2
def tkS (id : Nat) (f : Flt) (s : Int × Int) : Int × Int := match Cn20.one f id with | none => s | some x => if id = 3 then ((x : Int) + 1, s.2) else (s.1, (Ck17.byteD (x : Int)).1)
theorem one_some {f : Flt} {id x : Nat} (h : Cn20.one f id = some x) : f.id = id ∧ f.ps = [x] := by
  unfold Cn20.one at h
  split at h
  · rename_i h1
    refine ⟨h1, ?_⟩
    split at h
    · rename_i x' h2
      simp only [Option.some.injEq] at h
      rw [h2, h]
    · cases h
  · cases h
theorem one_none {f : Flt} {id : Nat} (h : Cn20.one f id = none) : f.id ≠ id ∨ f.ps.length ≠ 1 := by
  unfold Cn20.one at h
  split at h
  · rename_i h1
    refine .inr (fun hl => ?_)
    match hp : f.ps, hl with
    | [x], _ => rw [hp] at h; simp at h
  · rename_i h1; exact .inl h1
theorem take20_any (id : Nat) (F : Nat) (hF : id = 3 ∧ F = 53 ∨ id = 33 ∧ F = 54) (q : FlV) (B : Nat) (s : Int × Int) (w : World) (hq : q.ok w) (hb : w.heap[B]? = some (.cells #[.int .i64 s.1, .int .i64 s.2] 69 (0, 0))) (hne : ∀ y : Addr, 0 < q.n → q.a = some y → y.block ≠ B) :
    Calls Tryd.prog 30 #[.agg #[.int .u64 (id : Int), .func (.func F) #[] #[]], .agg #[.int .u64 (q.id : Int), .slice q.a q.n q.c], .pointer (some ⟨B, 0, none⟩)] w fun e w' => e = .returned (.int .i64 (tkE id q.f)) ∧ w'.heap[B]? = some (.cells #[.int .i64 (tkS id q.f s).1, .int .i64 (tkS id q.f s).2] 69 (0, 0)) ∧ Chg (fun g => g = B) w w' := by
  have hlen := hq.len
  cases ho : Cn20.one q.f id with
  | none =>
    have h1 : tkE id q.f = 4 := by unfold tkE; rw [ho]
    have h2 : tkS id q.f s = s := by unfold tkS; rw [ho]
    rw [h1, h2]
    refine (take20_no (id : Int) (q.id : Int) F q.a q.n q.c _ w ?_).mono fun e w' ⟨he, hc⟩ => ⟨he, blk_keep hb hc (fun f => f), hc.mono (fun _ f => f.elim)⟩
    rcases one_none ho with h | h
    · exact .inl (fun e => h (by have : q.id = id := by omega
                                 exact this))
    · refine .inr (fun e => h ?_)
      show q.bs.length = 1
      omega
  | some x =>
    obtain ⟨h1, h2⟩ := one_some ho
    have h1' : q.id = id := h1
    have h2' : q.bs = [x] := h2
    have hx : x ≤ 255 := by have := hq.dig x (by rw [h2']; simp); omega
    have hn : q.n = 1 := by rw [← hlen, h2']; rfl
    have hr := hq.row
    obtain ⟨qi, qa, qn, qc, qb⟩ := q
    simp only at h1' h2' hn hr hne
    subst h1' h2' hn
    rcases hF with ⟨rfl, rfl⟩ | ⟨rfl, rfl⟩
    · have e1 : tkE 3 (FlV.f ⟨3, qa, 1, qc, [x]⟩) = 0 := by unfold tkE; rw [ho]; rfl
      have e2 : tkS 3 (FlV.f ⟨3, qa, 1, qc, [x]⟩) s = ((x : Int) + 1, s.2) := by unfold tkS; rw [ho]; rfl
      rw [e1, e2]
      exact take20_yes 3 53 qa qc x hx B _ _ 0 w hr hb (fun y e => hne y (by decide) e) (fun _ _ => rfl) (fun ww hw => readDist20 x hx B _ _ ww hw)
    · have e1 : tkE 33 (FlV.f ⟨33, qa, 1, qc, [x]⟩) = (Ck17.byteD (x : Int)).2 := by unfold tkE; rw [ho]; rfl
      have e2 : tkS 33 (FlV.f ⟨33, qa, 1, qc, [x]⟩) s = (s.1, (Ck17.byteD (x : Int)).1) := by unfold tkS; rw [ho]; rfl
      rw [e1, e2]
      exact take20_yes 33 54 qa qc x hx B _ _ _ w hr hb (fun y e => hne y (by decide) e) (fun _ _ => rfl) (fun ww hw => readDict20 x hx B _ _ ww hw)
end Go.Proofs.YtkncbanodpfccaaDoor
