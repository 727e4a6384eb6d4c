/- Several texts in one, none of a statement by itself: Fla, Flo, Dic, Csp, Hdd. -/
import Derived.Test.YtkncbanodpfccaaDoorBoundB
import Derived.Test.YtkncbanodpfccaaDoorBoundA
import Derived.Deep.DeepCutAuto
import Derived.Great.BuildSlice
import Derived.Laws.StructEq
import Derived.BigQuiet
import Derived.Test.YtkncbanodpfccaaDoorBoundC
import Derived.BigRegion
import Derived.Deep.QuietTactic
/- Lists of filters in memory: as they came in, and of one's own; of no statement by themselves. -/
namespace Go.Proofs.YtkncbanodpfccaaDoor
open Go.RowKit
set_option linter.unusedVariables false
set_option linter.unusedSimpArgs false
/-- A filter in memory: its number, its properties as a slice tells them. -/
structure FlV where
  id : Nat
  a : Option Addr
  n : Nat
  c : Nat
  bs : List Nat
def FlV.f (q : FlV) : Flt := ⟨q.id, q.bs⟩
def FlV.v (q : FlV) : Value := .agg #[.int .u64 (q.id : Int), .slice q.a q.n q.c]
def FlV.cells (q : FlV) : List Value := [.int .u64 (q.id : Int), .slice q.a q.n q.c]
/-- Its bytes lie there. -/
structure FlV.ok (W : World) (q : FlV) : Prop where
  id : q.id < 18446744073709551616
  row : Row8 W q.a q.n q.c (nums q.bs)
  dig : Rc.Dig q.bs
  cap : q.n ≤ q.c
  lim : q.n ≤ 140737488351232
theorem FlV.ok.len {W : World} {q : FlV} (h : q.ok W) : q.bs.length = q.n := by have := h.row.1; rw [nums_len] at this; exact this
theorem FlV.ok.new {W W' : World} {q : FlV} (h : q.ok W) (hc : Chg (fun _ => False) W W') : q.ok W' := ⟨h.id, Bk.row8_chg h.row hc, h.dig, h.cap, h.lim⟩
/-- A list of filters. -/
def FlL (w : World) (ad : Option Addr) (l : List FlV) : Prop := ∀ (k : Nat) (q : FlV), l[k]? = some q → q.ok w ∧ ∃ b off, ad = some ⟨b, off, none⟩ ∧ w.cell? ⟨b, off + k * 2, none⟩ = some (.int .u64 (q.id : Int)) ∧ w.cell? ⟨b, off + k * 2 + 1, none⟩ = some (.slice q.a q.n q.c)
theorem FlL.new {w w' : World} {ad : Option Addr} {l : List FlV} (h : FlL w ad l) (hc : Chg (fun _ => False) w w') : FlL w' ad l := fun k q hk => by
  obtain ⟨ho, b, off, e, h0, h1⟩ := h k q hk
  exact ⟨ho.new hc, b, off, e, cell_chg h0 hc, cell_chg h1 hc⟩
theorem FlL.at {w : World} {ad : Option Addr} {l : List FlV} (h : FlL w ad l) {k : Nat} (hk : k < l.length) : ∃ q b off, l[k]? = some q ∧ q.ok w ∧ ad = some ⟨b, off, none⟩ ∧ w.cell? ⟨b, off + k * 2, none⟩ = some (.int .u64 (q.id : Int)) ∧ w.cell? ⟨b, off + k * 2 + 1, none⟩ = some (.slice q.a q.n q.c) := by
  have e := List.getElem?_eq_getElem hk
  obtain ⟨ho, b, off, e1, h0, h1⟩ := h k _ e
  exact ⟨_, b, off, e, ho, e1, h0, h1⟩
theorem FlL.nil (w : World) (ad : Option Addr) : FlL w ad [] := fun k q hk => by simp at hk
/-- Filters as cells. -/
def flcs (l : List FlV) : List Value := l.flatMap FlV.cells
theorem flcs_append (a b : List FlV) : flcs (a ++ b) = flcs a ++ flcs b := by simp [flcs]
theorem flcs_one (q : FlV) : flcs [q] = q.cells := by simp [flcs]
theorem flcs_len (l : List FlV) : (flcs l).length = l.length * 2 := by
  induction l with
  | nil => rfl
  | cons y l ih => simp only [flcs, List.flatMap_cons, List.length_append] at *; rw [ih]; simp [FlV.cells]; omega
theorem flcs_at : ∀ (l : List FlV) (k : Nat) (q : FlV), l[k]? = some q → (flcs l)[k * 2]? = some (.int .u64 (q.id : Int)) ∧ (flcs l)[k * 2 + 1]? = some (.slice q.a q.n q.c)
  | [], k, p, h => by simp at h
  | q :: l, 0, p, h => by
    simp at h
    subst h
    exact ⟨rfl, rfl⟩
  | q :: l, k + 1, p, h => by
    obtain ⟨h1, h2⟩ := flcs_at l k p (by simpa using h)
    have e : flcs (q :: l) = .int .u64 (q.id : Int) :: .slice q.a q.n q.c :: flcs l := rfl
    rw [e]
    exact ⟨by rw [show (k + 1) * 2 = k * 2 + 1 + 1 by omega]; simpa using h1, by rw [show (k + 1) * 2 + 1 = k * 2 + 1 + 1 + 1 by omega]; simpa using h2⟩
theorem flcs_cell (l : List FlV) : ∀ u ∈ flcs l, u.oneCell' = true := fun u hu => by
  unfold flcs at hu
  rw [List.mem_flatMap] at hu
  obtain ⟨y, _, h⟩ := hu
  simp only [FlV.cells, List.mem_cons, List.not_mem_nil, or_false] at h
  rcases h with rfl | rfl <;> rfl
theorem infoFl : (Tryd.prog.info? 54).map (fun i => (i.zero, i.size, i.bytes)) = some (some (.agg #[.int .u64 0, .slice none 0 0]), 2, 32) := by kernel_rfl
theorem infoBs : (Tryd.prog.info? 25).map (fun i => (i.zero, i.size, i.bytes)) = some (some (.slice none 0 0), 1, 24) := by kernel_rfl
/-- A list of filters of one's own. -/
def FlO (w : World) (B : Nat) (v : Value) (l : List FlV) : Prop := w.ownsRow B 54 2 v l.length (flcs l)
theorem formF {w : World} {B : Nat} {t : TypeId} {size : Nat} {lv : Value} {n : Nat} {xs : List Value} (h : w.ownsRow B t size lv n xs) : ∃ a c, lv = .slice a n c := by
  rcases h.2 with ⟨rfl, rfl⟩ | ⟨g, cap, cur, rfl, _⟩
  · exact ⟨none, 0, rfl⟩
  · exact ⟨_, _, rfl⟩
theorem owns_keepF {w w' : World} {S : Nat → Prop} {B size : Nat} {e : TypeId} {v : Value} {n : Nat} {xs : List Value} (h : w.ownsRow B e size v n xs) (hc : Chg S w w') (hS : ∀ g, v.ownBlock = some g → ¬ S g) : w'.ownsRow B e size v n xs := by
  refine ⟨h.1, ?_⟩
  rcases h.2 with hn | ⟨g, cap, cur, rfl, hb, hgg, rest⟩
  · exact .inl hn
  · exact .inr ⟨g, cap, cur, rfl, hb, (hc.block g (lt_of_blk hgg) (hS g rfl)).trans hgg, rest⟩
theorem owns_blkF {w : World} {B size : Nat} {e : TypeId} {v : Value} {n : Nat} {xs : List Value} (h : w.ownsRow B e size v n xs) {g : Nat} (hg : v.ownBlock = some g) : ∃ cur, w.heap[g]? = some (.cells cur e (0, 0)) := by
  rcases h.2 with ⟨rfl, _⟩ | ⟨g', cap, cur, rfl, hb, hgg, _⟩
  · simp [Value.ownBlock] at hg
  · simp [Value.ownBlock] at hg
    subst hg
    exact ⟨cur, hgg⟩
theorem owns_someF {w : World} {B size : Nat} {e : TypeId} {v : Value} {n : Nat} {xs : List Value} (h : w.ownsRow B e size v n xs) (hn : 0 < n) : ∃ g c, v = .slice (some ⟨g, 0, none⟩) n c ∧ n ≤ c ∧ B ≤ g ∧ g < w.heap.size := by
  have hlt := h.lt
  rcases h.2 with ⟨_, e⟩ | ⟨g, c, cur, rfl, hb, hg, hnc, _⟩
  · omega
  · exact ⟨g, c, rfl, hnc, hb, lt_of_blk hg⟩
theorem owns_newF {w w' : World} {B size : Nat} {e : TypeId} {v : Value} {n : Nat} {xs : List Value} (h : w.ownsRow B e size v n xs) (hc : Chg (fun _ => False) w w') : w'.ownsRow B e size v n xs := owns_keepF h hc (fun _ _ f => f)
/-- One filter as a source. -/
theorem from_fl (w : World) (q : FlV) (t : TypeId) : From (w.alloc (.cells #[.int .u64 (q.id : Int), .slice q.a q.n q.c] t)) (some ⟨w.heap.size, 0, none⟩) 1 1 2 (flcs [q]) := by
  refine ⟨by rw [flcs_len]; rfl, .inr ⟨_, rfl, fun j u hu => ?_⟩⟩
  have hadd : (⟨w.heap.size, 0, none⟩ : Addr).add j = ⟨w.heap.size, j, none⟩ := by unfold Addr.add; split <;> simp_all
  rw [flcs_one] at hu
  rw [hadd, World.cell?, heap_alloc_new]
  simpa [FlV.cells] using hu
/-- What is of one's own lies as a list that came in does, if its properties do. -/
theorem flO_L {w : World} {B : Nat} {ad : Option Addr} {n c : Nat} {l : List FlV} (h : FlO w B (.slice ad n c) l) (ho : ∀ (k : Nat) (q : FlV), l[k]? = some q → q.ok w) : FlL w ad l := fun k q hk => by
  have hkl : k < l.length := (List.getElem?_eq_some_iff.1 hk).1
  obtain ⟨g, c', e, _⟩ := owns_someF h (by omega)
  simp only [Value.slice.injEq] at e
  obtain ⟨rfl, rfl, rfl⟩ := e
  obtain ⟨a0, a1⟩ := flcs_at l k q hk
  have hl := flcs_len l
  unfold FlO at h
  refine ⟨ho k q hk, g, 0, rfl, ?_, ?_⟩
  · rw [Nat.zero_add, h.cellAt (k * 2) (by omega)]; exact a0
  · rw [Nat.zero_add, h.cellAt (k * 2 + 1) (by omega)]; exact a1
end Go.Proofs.YtkncbanodpfccaaDoor

/- Lists of filters of one's own, with their properties; of no statement by themselves. -/
namespace Go.Proofs.YtkncbanodpfccaaDoor
open Go.RowKit
set_option linter.unusedVariables false
set_option linter.unusedSimpArgs false
/-- A list of filters of one's own, with their properties. -/
structure Of0 (B : Nat) (w : World) (lv : Value) (q : List FlV) : Prop where
  own : FlO w B lv q
  pcs : ∀ (k : Nat) (x : FlV), q[k]? = some x → ByO w B (.slice x.a x.n x.c) x.bs ∧ x.id < 18446744073709551616 ∧ Rc.Dig x.bs ∧ x.n ≤ 140737488351232
theorem Of0.nil (B : Nat) (w : World) : Of0 B w (.slice none 0 0) [] := ⟨World.ownsRow_nil _ _ _ _, fun k x e => by simp at e⟩
theorem Of0.new {B : Nat} {w w' : World} {lv : Value} {q : List FlV} (h : Of0 B w lv q) (hc : Chg (fun _ => False) w w') : Of0 B w' lv q := ⟨owns_newF h.own hc, fun k x e => ⟨(h.pcs k x e).1.new hc, (h.pcs k x e).2⟩⟩
theorem Of0.push {B : Nat} {w w2 : World} {lv lv' : Value} {q : List FlV} {x : FlV} {n : Nat} (h : Of0 B w lv q) (hx : ByO w B (.slice x.a x.n x.c) x.bs ∧ x.id < 18446744073709551616 ∧ Rc.Dig x.bs ∧ x.n ≤ 140737488351232) (hn : n = q.length + 1) (ho : w2.ownsRow B 54 2 lv' n (flcs q ++ flcs [x])) (hg : w.grownBy w2 lv.ownBlock) : Of0 B w2 lv' (q ++ [x]) := by
  subst hn
  have hC : Chg (fun g => lv.ownBlock = some g) w w2 := (Chg.refl _ w).grown hg (fun g e => .inl e)
  have keep : ∀ y : FlV, ByO w B (.slice y.a y.n y.c) y.bs → ByO w2 B (.slice y.a y.n y.c) y.bs := fun y hy => ownsRow_keep hy hC (fun g e f => by
    obtain ⟨c1, h1⟩ := ownsRow_blk hy e
    obtain ⟨c2, h2⟩ := owns_blkF h.own f
    exact ty_ne h2 h1 (by decide))
  refine ⟨?_, fun k y e => ?_⟩
  · unfold FlO
    rw [List.length_append, List.length_singleton, flcs_append]
    exact ho
  · by_cases hk : k < q.length
    · rw [List.getElem?_append_left hk] at e
      exact ⟨keep y (h.pcs k y e).1, (h.pcs k y e).2⟩
    · have h1 := (List.getElem?_eq_some_iff.1 e).1
      simp at h1
      obtain rfl : k = q.length := by omega
      simp at e
      subst e
      exact ⟨keep x hx.1, hx.2⟩
theorem Of0.L {B : Nat} {w : World} {ad : Option Addr} {n c : Nat} {q : List FlV} (h : Of0 B w (.slice ad n c) q) : FlL w ad q := flO_L h.own (fun k x e => by
  obtain ⟨h1, h2, h3, h4⟩ := h.pcs k x e
  exact ⟨h2, (byO_row h1).1, h3, (byO_row h1).2.2, h4⟩)
theorem own_lit1 (w : World) (x : Nat) : ByO (w.alloc (.cells #[.int .u8 (x : Int)] 5)) w.heap.size (.slice (some ⟨w.heap.size, 0, none⟩) 1 1) [x] := by
  have h := World.ownsRow_lit (base := w.heap.size) (e := 5) (size := 1) w #[.int .u8 (x : Int)] 1 (Nat.le_refl _) (by decide) rfl
  exact h
/-- No two lie in one block. -/
def InjF (l : List FlV) : Prop := ∀ (i j : Nat) (x y : FlV) (g : Nat), l[i]? = some x → l[j]? = some y → (Value.slice x.a x.n x.c).ownBlock = some g → (Value.slice y.a y.n y.c).ownBlock = some g → i = j
end Go.Proofs.YtkncbanodpfccaaDoor

/- The dictionaries that bytes tell: the program's and the document's answers; of no statement by themselves. -/
namespace Go.Proofs.YtkncbanodpfccaaDoor
open Go.RowKit
open St12
set_option linter.unusedVariables false
set_option linter.unusedSimpArgs false
namespace Ck17
theorem byteD_in {b : Nat} (h : b ≤ 40) : byteD (b : Int) = (((dic b : Nat) : Int), 0) := by
  unfold byteD
  rw [if_neg (by omega), if_neg (by omega), Int.toNat_natCast]
end Ck17
namespace Ck17
theorem dictB_in {n : Int} (h1 : 0 ≤ n) (h2 : n ≤ 4294967295) : ∃ b : Nat, dictB n = (((b : Nat) : Int), 0) ∧ b ≤ 40 ∧ n ≤ ((dic b : Nat) : Int) ∧ (0 < b → ((dic (b - 1) : Nat) : Int) < n) := by
  obtain ⟨_, k2, k3, k4⟩ := dbF_spec n.toNat 40 0 rfl
  refine ⟨dbF n.toNat 0 40, by unfold dictB; rw [if_neg (by omega)], k2, by have := k3 (by omega); omega, fun h => ?_⟩
  have := k4 (dbF n.toNat 0 40 - 1) (by omega) (by omega)
  omega
end Ck17
theorem shl_fit : ∀ (M : Fin 2) (D : Fin 20), wrap64 ((2 + (M.val : Int)) * 2 ^ (D.val + 11)) = (((2 + M.val) * 2 ^ (D.val + 11) : Nat) : Int) := by decide +kernel
set_option maxHeartbeats 2000000 in
theorem told17_q (B : Nat) (hB : B ≤ 40) (w : World) : Calls Tryd.prog 81 #[.int .i64 (B : Int)] w fun e w' => e = .returned (.int .i64 ((Ck17.dic B : Nat) : Int)) ∧ w = w' := by
  by_cases h3 : B = 40
  · subst h3
    go_enter Tryd.func81, Tryd.ntmps81
    go_wp2
    go_ret
    exact ⟨rfl, rfl⟩
  · have e3 : ((B : Int) == 40) = false := by simp; omega
    have hB9 : B < 40 := by omega
    obtain ⟨M, hM⟩ : ∃ M, B % 2 = M := ⟨_, rfl⟩
    obtain ⟨D, hD⟩ : ∃ D, B / 2 = D := ⟨_, rfl⟩
    have t1 : (B : Int).tmod 2 = (M : Int) := by rw [← hM]; rfl
    have t2 : (B : Int).tdiv 2 = (D : Int) := by rw [← hD]; rfl
    have HA : Hid (((Ck17.dic B : Nat) : Int) = wrap64 ((2 + (M : Int)) * 2 ^ (D + 11))) := by
      show _ = _
      rw [shl_fit ⟨M, by omega⟩ ⟨D, by omega⟩]
      unfold Ck17.dic
      rw [if_neg h3, hM, hD]
    have hM9 : (M : Int) ≤ 1 := by omega
    have hD9 : (D : Int) ≤ 19 := by omega
    have hBi : (B : Int) < 40 := by omega
    clear hM hD h3 hB9 hB
    rw [HA.out]
    go_enter Tryd.func81, Tryd.ntmps81
    go_wp2
    go_ret
    exact ⟨rfl, rfl⟩
set_option maxHeartbeats 2000000 in
theorem bd17_any (b : Int) (hb : I64 b) (w : World) : Calls Tryd.prog 72 #[.int .i64 b] w fun e w' => e = .returned (.tuple #[.int .i64 (Ck17.byteD b).1, .int .i64 (Ck17.byteD b).2]) ∧ w = w' := by
  by_cases h0 : b < 0
  · have d0 : decide (b < 0) = true := decide_eq_true h0
    have HA : Hid (Ck17.byteD b = (0, 7)) := by show _ = _; unfold Ck17.byteD; rw [if_pos (by omega)]
    clear h0
    go_enter Tryd.func72, Tryd.ntmps72
    go_wp2
    go_ret2
    exact ⟨by rw [HA.out]; rfl, rfl⟩
  have d0 : decide (b < 0) = false := decide_eq_false h0
  by_cases h1 : 255 < b
  · have d1 : decide (255 < b) = true := decide_eq_true h1
    have HA : Hid (Ck17.byteD b = (0, 7)) := by show _ = _; unfold Ck17.byteD; rw [if_pos (by omega)]
    clear h0 h1
    go_enter Tryd.func72, Tryd.ntmps72
    go_wp2
    go_ret2
    exact ⟨by rw [HA.out]; rfl, rfl⟩
  have d1 : decide (255 < b) = false := decide_eq_false h1
  by_cases h2 : 40 < b
  · have d2 : decide (40 < b) = true := decide_eq_true h2
    have HA : Hid (Ck17.byteD b = (0, 4)) := by show _ = _; unfold Ck17.byteD; rw [if_neg (by omega), if_pos h2]
    clear h0 h1 h2
    go_enter Tryd.func72, Tryd.ntmps72
    go_wp2
    go_ret2
    exact ⟨by rw [HA.out]; rfl, rfl⟩
  have d2 : decide (40 < b) = false := decide_eq_false h2
  obtain ⟨B, rfl⟩ : ∃ B : Nat, (B : Int) = b := ⟨b.toNat, by omega⟩
  have HT : Hid _ := told17_q B (by omega) w
  have HA : Hid (Ck17.byteD (B : Int) = (((Ck17.dic B : Nat) : Int), 0)) := Ck17.byteD_in (by omega)
  generalize Ck17.dic B = D at *
  clear h0 h1 h2
  go_enter Tryd.func72, Tryd.ntmps72
  go_wp2_with fail
  refine Calls.mono HT.out ?_
  rintro z w1 ⟨rfl, rfl⟩
  clear HT
  go_wp2
  go_ret2
  exact ⟨by rw [HA.out]; rfl, rfl⟩
set_option maxHeartbeats 4000000 in
set_option maxRecDepth 100000 in
theorem rbd17_any (b : Int) (hb : I64 b) (w : World) : Calls Tryd.prog 59 #[.int .i64 b] w fun e w' => e = .returned (.tuple #[.int .i64 (Ck17.byteD b).1, .int .i64 (Ck17.byteD b).2]) ∧ w = w' := by
  by_cases h0 : b < 0
  · have d0 : decide (b < 0) = true := decide_eq_true h0
    have HA : Hid (Ck17.byteD b = (0, 7)) := by show _ = _; unfold Ck17.byteD; rw [if_pos (by omega)]
    clear h0
    go_enter Tryd.func59, Tryd.ntmps59
    go_wp2
    go_ret2
    exact ⟨by rw [HA.out]; rfl, rfl⟩
  have d0 : decide (b < 0) = false := decide_eq_false h0
  by_cases h1 : 255 < b
  · have d1 : decide (255 < b) = true := decide_eq_true h1
    have HA : Hid (Ck17.byteD b = (0, 7)) := by show _ = _; unfold Ck17.byteD; rw [if_pos (by omega)]
    clear h0 h1
    go_enter Tryd.func59, Tryd.ntmps59
    go_wp2
    go_ret2
    exact ⟨by rw [HA.out]; rfl, rfl⟩
  have d1 : decide (255 < b) = false := decide_eq_false h1
  by_cases h2 : 40 < b
  · have d2 : decide (40 < b) = true := decide_eq_true h2
    have HA : Hid (Ck17.byteD b = (0, 4)) := by show _ = _; unfold Ck17.byteD; rw [if_neg (by omega), if_pos h2]
    clear h0 h1 h2
    go_enter Tryd.func59, Tryd.ntmps59
    go_wp2
    go_ret2
    exact ⟨by rw [HA.out]; rfl, rfl⟩
  have d2 : decide (40 < b) = false := decide_eq_false h2
  obtain ⟨B, rfl⟩ : ∃ B : Nat, (B : Int) = b := ⟨b.toNat, by omega⟩
  by_cases h3 : B = 40
  · subst h3
    have HA : Hid (Ck17.byteD ((40 : Nat) : Int) = (4294967295, 0)) := Ck17.byteD_in (Nat.le_refl _)
    clear h0 h1 h2 d0 d1 d2 hb
    go_enter Tryd.func59, Tryd.ntmps59
    go_wp2
    go_ret2
    exact ⟨by rw [HA.out]; rfl, rfl⟩
  · have e3 : ((B : Int) == 40) = false := by simp; omega
    have hB9 : B < 40 := by omega
    obtain ⟨M, hM⟩ : ∃ M, B % 2 = M := ⟨_, rfl⟩
    obtain ⟨D, hD⟩ : ∃ D, B / 2 = D := ⟨_, rfl⟩
    have t1 : (B : Int).tmod 2 = (M : Int) := by rw [← hM]; rfl
    have t2 : (B : Int).tdiv 2 = (D : Int) := by rw [← hD]; rfl
    have HA : Hid (Ck17.byteD (B : Int) = ((((2 + M) * 2 ^ (D + 11) : Nat) : Int), 0)) := by show _ = _; rw [Ck17.byteD_in (by omega)]; unfold Ck17.dic; rw [if_neg h3, hM, hD]
    have hM9 : (M : Int) ≤ 1 := by omega
    have hD9 : (D : Int) ≤ 19 := by omega
    have HDN : Hid (D ≤ 19 ∧ M ≤ 1) := ⟨by omega, by omega⟩
    have hBi : (B : Int) < 40 := by omega
    clear h0 h1 h2 hb hM hD h3 hB9
    go_enter Tryd.func59, Tryd.ntmps59
    go_wp2_with fail
    go_loopw [4, 5] (fun v4 v5 wr => ∃ i d : Nat, i ≤ D + 11 ∧ v4 = .int .i64 (d : Int) ∧ v5 = .int .i64 (i : Int) ∧ (d : Int) ≤ 4294967295 ∧ Hid (d = (2 + M) * 2 ^ i) ∧ w = wr) (fun _ v5 _ => D + 11 - (intOf v5).toNat)
    case atStart => exact ⟨0, 2 + M, by omega, by go_num, rfl, by omega, by simp [Hid], rfl⟩
    case round =>
      obtain ⟨i, d, hi, rfl, rfl, hd9, HI, rfl⟩ := hrel
      by_cases hin : i < D + 11
      · have d5 : decide ((i : Int) < (D : Int) + 11) = true := decide_eq_true (by omega)
        have d5' : decide (i < D + 11) = true := decide_eq_true hin
        have HN : Hid (2 * d = (2 + M) * 2 ^ (i + 1)) := by show _ = _; rw [HI.out, Nat.pow_succ]; ac_rfl
        have h9 : ((2 * d : Nat) : Int) ≤ 4294967295 := by
          have e1 := HN.out
          have e2 : 2 ^ (i + 1) ≤ 2 ^ 30 := Nat.pow_le_pow_right (by decide) (by have := HDN.out; omega)
          have e3 : (2 + M) * 2 ^ (i + 1) ≤ 3 * 2 ^ 30 := Nat.mul_le_mul (by have := HDN.out; omega) e2
          omega
        have hii : (i : Int) ≤ 30 := by omega
        have h9' : 2 * (d : Int) ≤ 4294967295 := by omega
        clear HI
        go_wp2_with fail
        exact ⟨⟨i + 1, 2 * d, by omega, by go_num, by go_num, h9, HN.out, trivial⟩, by simp [intOf]; omega⟩
      · have d5 : decide ((i : Int) < (D : Int) + 11) = false := decide_eq_false (by omega)
        have d5' : decide (i < D + 11) = false := decide_eq_false hin
        have HE : Hid (((d : Nat) : Int) = (((2 + M) * 2 ^ (D + 11) : Nat) : Int)) := by show _ = _; rw [HI.out, show i = D + 11 by omega]
        have hii : (i : Int) ≤ 30 := by omega
        clear HI
        go_wp2
        go_ret2
        exact ⟨by rw [HA.out, ← HE.out]; rfl, rfl⟩
end Go.Proofs.YtkncbanodpfccaaDoor

/- What is asked of the program's chains ('ChainSpec'); of no statement by itself. -/
namespace Go.Proofs.YtkncbanodpfccaaDoor
open Go.RowKit
open St12
set_option linter.unusedVariables false
set_option linter.unusedSimpArgs false
def Cfg.I (c : Cfg) : Prop := I64 c.ch ∧ I64 c.de ∧ I64 c.lc ∧ I64 c.lp ∧ I64 c.pb ∧ I64 c.di ∧ I64 c.bl ∧ I64 c.mo
def cfv (c : Cfg) : Value := .agg #[.int .i64 c.ch, .int .i64 c.de, .int .i64 c.lc, .int .i64 c.lp, .int .i64 c.pb, .int .i64 c.di, .int .i64 c.bl, .int .i64 c.mo]
structure ChainSpec (Tab : World → Prop) : Prop where
  keep : ∀ {w w'}, Tab w → Chg (fun _ => False) w w' → Tab w'
  put : ∀ (id : Nat) (a : Option Addr) (n c : Nat) (bs : List Nat) (w : World), Tab w → (⟨id, a, n, c, bs⟩ : FlV).ok w → Calls Tryd.prog 38 #[.agg #[.int .u64 (id : Int), .slice a n c]] w fun e w' => ∃ ov, e = .returned (.tuple #[ov, .int .i64 (Cn20.putF ⟨id, bs⟩).2]) ∧ ByO w' w.heap.size ov (Cn20.putF ⟨id, bs⟩).1 ∧ Chg (fun _ => False) w w'
  get : ∀ (ad : Option Addr) (n cp : Nat) (bs : List Nat) (w : World), Tab w → Row8 w ad n cp (nums bs) → Rc.Dig bs → n ≤ cp → n ≤ 140737488355328 → Calls Tryd.prog 51 #[.slice ad n cp] w fun e w' => ∃ pv, e = .returned (.tuple #[.agg #[.int .u64 ((Cn20.getF bs).1.id : Int), pv], .int .i64 ((Cn20.getF bs).2.1 : Int), .int .i64 (Cn20.getF bs).2.2]) ∧ ByO w' w.heap.size pv (Cn20.getF bs).1.ps ∧ Chg (fun _ => False) w w'
  read : ∀ (ad : Option Addr) (n c : Nat) (l : List FlV) (w : World), Tab w → FlL w ad l → l.length = n → n ≤ c → n ≤ 4398046511104 → Calls Tryd.prog 12 #[.slice ad n c] w fun e w' => e = .returned (.tuple #[.int .i64 (Cn20.readF (l.map FlV.f)).1, .int .i64 (Cn20.readF (l.map FlV.f)).2.1, .int .i64 (Cn20.readF (l.map FlV.f)).2.2]) ∧ Chg (fun _ => False) w w'
end Go.Proofs.YtkncbanodpfccaaDoor

/- What is asked of the program's headers ('HeadSpec'); the laws' small functions; of no statement by themselves. -/
namespace Go.Proofs.YtkncbanodpfccaaDoor
open Go.RowKit
open St12
set_option linter.unusedVariables false
set_option linter.unusedSimpArgs false
def hdv (pk sz : Int) (fv : Value) (by_ : Int) : Value := .agg #[.int .i64 pk, .int .i64 sz, fv, .int .i64 by_]
structure HeadSpec (Tab : World → Prop) : Prop where
  keep : ∀ {w w'}, Tab w → Chg (fun _ => False) w w' → Tab w'
  put : ∀ (pk sz by_ pad : Int) (fa : Option Addr) (fn fc : Nat) (l : List FlV) (w : World), Tab w → I64 pk → I64 sz → I64 by_ → I64 pad → FlL w fa l → l.length = fn → fn ≤ fc → fn ≤ 1048576 → (∀ (k : Nat) (x : FlV), l[k]? = some x → x.n ≤ 1048576) → Calls Tryd.prog 8 #[hdv pk sz (.slice fa fn fc) by_, .int .i64 pad] w fun e w' => ∃ ov, e = .returned (.tuple #[ov, .int .i64 (Hd21.putH ⟨pk, sz, l.map FlV.f, by_⟩ pad).2]) ∧ ByO w' w.heap.size ov (Hd21.putH ⟨pk, sz, l.map FlV.f, by_⟩ pad).1 ∧ Chg (fun _ => False) w w'
  get : ∀ (ad : Option Addr) (n c : Nat) (bs : List Nat) (w : World), Tab w → Row8 w ad n c (nums bs) → Rc.Dig bs → n ≤ c → n ≤ 140737488355328 → Calls Tryd.prog 10 #[.slice ad n c] w fun e w' => ∃ fa fn fc l, e = .returned (.tuple #[hdv (Hd21.getH bs).1.pk (Hd21.getH bs).1.sz (.slice fa fn fc) (Hd21.getH bs).1.by_, .int .i64 (Hd21.getH bs).2]) ∧ Of0 w.heap.size w' (.slice fa fn fc) l ∧ InjF l ∧ l.length = fn ∧ fn ≤ fc ∧ l.map FlV.f = (Hd21.getH bs).1.fs ∧ Chg (fun _ => False) w w'
theorem fix_put21 : Hd21.putH ⟨5, 300, [⟨33, [0]⟩], 0⟩ 0 = ([2, 192, 5, 172, 2, 33, 1, 0, 166, 113, 157, 132], 0) := by decide +kernel
theorem fix_get21 : Hd21.getH [2, 192, 5, 172, 2, 33, 1, 0, 166, 113, 157, 132] = (⟨5, 300, [⟨33, [0]⟩], 12⟩, 0) := by
  have e0 : Hd21.putE ⟨5, 300, [⟨33, [0]⟩], 0⟩ 0 = 0 := by decide +kernel
  have h := Hd21.get_putH e0 (by decide) (by decide) (by intro f hf; simp at hf; subst hf; decide) []
  rw [fix_put21] at h
  rw [show ([2, 192, 5, 172, 2, 33, 1, 0, 166, 113, 157, 132] : List Nat) = [2, 192, 5, 172, 2, 33, 1, 0, 166, 113, 157, 132] ++ [] from rfl, h]
  have hr : (Cn20.readF [⟨33, [0]⟩]).2.2 = 0 := by decide +kernel
  rw [if_neg (by simp only; rw [hr]; simp)]
  rfl
set_option maxHeartbeats 4000000 in
set_option maxRecDepth 100000 in
theorem joined21_any (a b : Option Addr) (m n ca cb : Nat) (xs ys : List Nat) (w0 : World) (ha : Row8 w0 a m ca (nums xs)) (hb : Row8 w0 b n cb (nums ys)) (hmn : m + n ≤ 140737488355328) : Calls Tryd.prog 11 #[.slice a m ca, .slice b n cb] w0 fun e w' => ∃ ad c, e = .returned (.slice ad (m + n) c) ∧ ByO w' w0.heap.size (.slice ad (m + n) c) (xs ++ ys) ∧ Chg (fun _ => False) w0 w' := by
  obtain ⟨iu, hiu, hu0, hu1, hu2⟩ := info_parts info5u
  have HB : Hid (Row8 w0 b n cb (nums ys)) := hb
  have hmi : (m : Int) + (n : Int) ≤ 140737488355328 := by omega
  have c3 := chg_one w0 (.cells #[] 5)
  have hown3 := own_empty w0 5
  have hsrc3 := (Bk.row8_chg ha c3).src
  have hone3 := oneB xs
  have hB3 : w0.heap.size ≤ (w0.alloc (.cells #[] 5)).heap.size := c3.size
  have HC3 : Hid (Chg (fun _ => False) w0 (w0.alloc (.cells #[] 5))) := c3
  clear c3 ha hb
  go_enter Tryd.func11, Tryd.ntmps11
  go_wp2_with (at_builtin; refine wpList_append_moved rfl _ _ 25 rfl w0.heap.size 5 iu (.int .u8 0) 1 1 Tryd.underlying25 hiu hu0 hu1 hu2 rfl (by decide) _ 0 [] rfl a m ca rfl ((nums xs).map (Value.int .u8)) ?h1 ?h2 ?h3 ?m1 ?m2 ?m3 ?_)
  case h1 => exact hown3
  case h2 => exact hsrc3
  case h3 => exact hone3
  case m1 => unfold maxLen; omega
  case m2 => omega
  case m3 => exact hB3
  intro v4 w4 ho4 hg4 hm4
  have c4 : Chg (fun _ => False) w0 w4 := HC3.out.grown hg4 (fun j e => .inr (by simp [Value.ownBlock] at e; omega))
  try simp only [List.nil_append, Nat.zero_add] at ho4
  obtain ⟨a4, d4, rfl⟩ := form1 ho4
  have hsrc5 := (Bk.row8_chg HB.out c4).src
  have hone5 := oneB ys
  have hB5 : w0.heap.size ≤ w4.heap.size := c4.size
  have HC4 : Hid (Chg (fun _ => False) w0 w4) := c4
  have hown5 := ho4
  have HLT : Hid (∀ g, (Value.slice a4 m d4).ownBlock = some g → w0.heap.size ≤ g) := fun g e => (ho4.lt g e).1
  clear ho4 hg4 hm4 c4 hown3 hsrc3 hone3 hB3 HC3
  go_wp2_with (at_builtin; refine wpList_append_moved rfl _ _ 25 rfl w0.heap.size 5 iu (.int .u8 0) 1 1 Tryd.underlying25 hiu hu0 hu1 hu2 rfl (by decide) _ m ((nums xs).map (Value.int .u8)) rfl b n cb rfl ((nums ys).map (Value.int .u8)) ?h1 ?h2 ?h3 ?m1 ?m2 ?m3 ?_)
  case h1 => exact hown5
  case h2 => exact hsrc5
  case h3 => exact hone5
  case m1 => unfold maxLen; omega
  case m2 => omega
  case m3 => exact hB5
  intro v6 w6 ho6 hg6 hm6
  have HC6 : Hid (Chg (fun _ => False) w0 w6) := HC4.out.grown hg6 (fun j e => .inr (HLT.out j e))
  have HBY : Hid (ByO w6 w0.heap.size v6 (xs ++ ys)) := byO_app ho6
  obtain ⟨a6, d6, rfl⟩ := form1 ho6
  clear ho6 hg6 hm6 hown5 hsrc5 hone5 hB5 HC4 HLT
  go_wp2
  go_ret
  exact ⟨a6, d6, rfl, HBY.out, HC6.out⟩
end Go.Proofs.YtkncbanodpfccaaDoor
