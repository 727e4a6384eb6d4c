/- Several texts in one, none of a statement by itself: Cra, Crb, Hdn. -/
import Derived.Test.YtkncbanodpfccaaDoorBoundD
import Derived.BigQuiet
import Derived.BigRegion
import Derived.Deep.QuietTactic
import Derived.Test.YtkncbanodpfccaaDoorHdm
/- Filters as they are handed in with marks behind them: the law's room; of no statement by itself. -/
namespace Go.Proofs.YtkncbanodpfccaaDoor
open Go.RowKit
set_option linter.unusedVariables false
set_option linter.unusedSimpArgs false
/-- A copy, with the mark behind its properties. -/
structure FlV.mark (q : FlV) (B : Nat) (w : World) : Prop where
  own : ByO w B (.slice q.a (q.n + 1) q.c) (q.bs ++ [77])
  id : q.id < 18446744073709551616
  len : q.bs.length = q.n
  dig : Rc.Dig q.bs
  lim : q.n ≤ 140737488351232
theorem FlV.mark.new {q : FlV} {B : Nat} {w w' : World} (h : q.mark B w) (hc : Chg (fun _ => False) w w') : q.mark B w' := ⟨h.own.new hc, h.id, h.len, h.dig, h.lim⟩
end Go.Proofs.YtkncbanodpfccaaDoor

/- The walk through room; of no statement by itself. -/
namespace Go.Proofs.YtkncbanodpfccaaDoor
open Go.RowKit
set_option linter.unusedVariables false
set_option linter.unusedSimpArgs false
def endF : FlV := ⟨1152921504606846976, none, 0, 0, []⟩
theorem FlV.mark.ok {q : FlV} {B : Nat} {w : World} (h : q.mark B w) : q.ok w := by
  obtain ⟨hr, hl, hc⟩ := byO_row h.own
  refine ⟨h.id, ?_, h.dig, by omega, h.lim⟩
  have := row8_take hr (i := q.n) (by omega)
  rw [List.take_append_of_le_length (by rw [h.len]; omega), List.take_of_length_le (by rw [h.len]; omega)] at this
  exact this
theorem map_take_snoc {l : List FlV} {k : Nat} {x y : FlV} {q : List FlV} (hq : q.map FlV.f = (l.take k).map FlV.f) (hx : l[k]? = some x) (hy : y.f = x.f) : (q ++ [y]).map FlV.f = (l.take (k + 1)).map FlV.f := by
  obtain ⟨hl, rfl⟩ := List.getElem?_eq_some_iff.1 hx
  rw [List.take_succ_eq_append_getElem hl, List.map_append, List.map_append, hq, List.map_singleton, List.map_singleton, hy]
theorem from_sl (w : World) (v : Value) (t : TypeId) : From (w.alloc (.cells #[v] t)) (some ⟨w.heap.size, 0, none⟩) 1 1 1 [v] := by
  refine ⟨rfl, .inr ⟨_, rfl, fun j u hu => ?_⟩⟩
  rw [addk, Nat.zero_add]
  simp only [World.cell?, heap_alloc_last]
  simpa using hu
theorem elemFl : Tryd.prog.elem 22 = 54 := by kernel_rfl
theorem sizeFl : (sizeOf 54).run Tryd.prog = fun w => .ok 2 w := by kernel_rfl
theorem undFl : Tryd.prog.underlying 22 = some (.slice (Tryd.prog.elem 22)) := by kernel_rfl
end Go.Proofs.YtkncbanodpfccaaDoor

/- The law's own copies of filters, with marks behind them, and what asks for them; of no statement by themselves. -/
namespace Go.Proofs.YtkncbanodpfccaaDoor
open Go.RowKit
open St12
set_option linter.unusedVariables false
set_option linter.unusedSimpArgs false
def end99 : FlV := ⟨99, none, 0, 0, []⟩
/-- Filters' copies so far. -/
structure Fk0 (B : Nat) (w : World) (lv : Value) (q : List FlV) : Prop where
  lst : FlO w B lv q
  pcs : ∀ (k : Nat) (x : FlV), q[k]? = some x → x.mark B w
/-- The copies, with the filter 99 behind them. -/
structure Fk (B : Nat) (w : World) (ra : Option Addr) (n rc : Nat) (q : List FlV) : Prop where
  lst : w.ownsRow B 54 2 (.slice ra (n + 1) rc) (n + 1) (flcs (q ++ [end99]))
  len : q.length = n
  pcs : ∀ (k : Nat) (x : FlV), q[k]? = some x → x.mark B w
theorem Fk0.new {B : Nat} {w w' : World} {lv : Value} {q : List FlV} (h : Fk0 B w lv q) (hc : Chg (fun _ => False) w w') : Fk0 B w' lv q := ⟨owns_newF h.lst hc, fun k x e => (h.pcs k x e).new hc⟩
theorem Fk.new {B : Nat} {w w' : World} {ra : Option Addr} {n rc : Nat} {q : List FlV} (h : Fk B w ra n rc q) (hc : Chg (fun _ => False) w w') : Fk B w' ra n rc q := ⟨owns_newF h.lst hc, h.len, fun k x e => (h.pcs k x e).new hc⟩
theorem mark_grown {B : Nat} {w w2 : World} {lv : Value} {x : FlV} {n : Nat} {xs : List Value} (h : x.mark B w) (ho : w.ownsRow B 54 2 lv n xs) (hg : w.grownBy w2 lv.ownBlock) : x.mark B w2 := by
  have hC : Chg (fun g => lv.ownBlock = some g) w w2 := (Chg.refl _ w).grown hg (fun g e => .inl e)
  refine ⟨ownsRow_keep h.own hC (fun g e f => ?_), h.id, h.len, h.dig, h.lim⟩
  obtain ⟨c1, h1⟩ := ownsRow_blk h.own e
  obtain ⟨c2, h2⟩ := owns_blkF ho f
  exact ty_ne h2 h1 (by decide)
theorem Fk0.push {B : Nat} {w w2 : World} {lv lv' : Value} {q : List FlV} {x : FlV} {n : Nat} (h : Fk0 B w lv q) (hx : x.mark B w) (hn : n = q.length + 1) (ho : w2.ownsRow B 54 2 lv' n (flcs q ++ flcs [x])) (hg : w.grownBy w2 lv.ownBlock) : Fk0 B w2 lv' (q ++ [x]) := by
  subst hn
  refine ⟨?_, fun k y e => ?_⟩
  · unfold FlO
    rw [List.length_append, List.length_singleton, flcs_append]
    exact ho
  · by_cases hk : k < q.length
    · rw [List.getElem?_append_left hk] at e
      exact mark_grown (h.pcs k y e) h.lst hg
    · have h1 := (List.getElem?_eq_some_iff.1 e).1
      simp at h1
      obtain rfl : k = q.length := by omega
      simp at e
      subst e
      exact mark_grown hx h.lst hg
theorem Fk0.fin {B : Nat} {w w2 : World} {lv : Value} {ra : Option Addr} {rc n : Nat} {q : List FlV} (h : Fk0 B w lv q) (hn : q.length = n) (ho : w2.ownsRow B 54 2 (.slice ra (n + 1) rc) (n + 1) (flcs q ++ flcs [end99])) (hg : w.grownBy w2 lv.ownBlock) : Fk B w2 ra n rc q :=
  ⟨by rw [flcs_append]; exact ho, hn, fun k y e => mark_grown (h.pcs k y e) h.lst hg⟩
theorem Fk.at {B : Nat} {w : World} {ra : Option Addr} {n rc : Nat} {q : List FlV} (h : Fk B w ra n rc q) : ∃ g, ra = some ⟨g, 0, none⟩ ∧ n + 1 ≤ rc ∧ ∀ j u, (flcs (q ++ [end99]))[j]? = some u → w.cell? ⟨g, j, none⟩ = some u := by
  obtain ⟨g, c, e, hc, _⟩ := owns_someF h.lst (by omega)
  simp only [Value.slice.injEq, true_and] at e
  obtain ⟨rfl, rfl⟩ := e
  refine ⟨g, rfl, hc, fun j u hu => ?_⟩
  have hl := flcs_len (q ++ [end99])
  rw [List.length_append, List.length_singleton, h.len] at hl
  have hj := (List.getElem?_eq_some_iff.1 hu).1
  rw [h.lst.cellAt j (by omega)]
  exact hu
theorem Fk.L {B : Nat} {w : World} {ra : Option Addr} {n rc : Nat} {q : List FlV} (h : Fk B w ra n rc q) : FlL w ra q := fun k x hk => by
  obtain ⟨g, e, _, hg⟩ := h.at
  have hkl := (List.getElem?_eq_some_iff.1 hk).1
  obtain ⟨a0, a1⟩ := flcs_at (q ++ [end99]) k x (by rw [List.getElem?_append_left hkl]; exact hk)
  exact ⟨(h.pcs k x hk).ok, g, 0, e, by rw [Nat.zero_add]; exact hg _ _ a0, by rw [Nat.zero_add]; exact hg _ _ a1⟩
theorem Fk.last {B : Nat} {w : World} {ra : Option Addr} {n rc : Nat} {q : List FlV} (h : Fk B w ra n rc q) : ∃ g, ra = some ⟨g, 0, none⟩ ∧ w.cell? ⟨g, n * 2, none⟩ = some (.int .u64 99) ∧ w.cell? ⟨g, n * 2 + 1, none⟩ = some (.slice none 0 0) := by
  obtain ⟨g, e, _, hg⟩ := h.at
  obtain ⟨a0, a1⟩ := flcs_at (q ++ [end99]) n end99 (by rw [List.getElem?_append_right (by rw [h.len]; exact Nat.le_refl _), h.len]; simp)
  exact ⟨g, e, hg _ _ a0, hg _ _ a1⟩
set_option maxHeartbeats 4000000 in
set_option maxRecDepth 100000 in
theorem room21_any (ad : Option Addr) (n c : Nat) (bs : List Nat) (w0 : World) (h : Row8 w0 ad n c (nums bs)) (hn : n + 1 ≤ 140737488355328) : Calls Tryd.prog 17 #[.slice ad n c] w0 fun e w' => ∃ oa oc, e = .returned (.slice oa n oc) ∧ ByO w' w0.heap.size (.slice oa (n + 1) oc) (bs ++ [77]) ∧ Chg (fun _ => False) w0 w' := by
  obtain ⟨iu, hiu, hu0, hu1, hu2⟩ := info_parts info5u
  have hbl : bs.length = n := by have h9 := h.1; rw [nums_len] at h9; exact h9
  have HBL : Hid (bs.length = n) := hbl
  have hni : (n : Int) + 1 ≤ 140737488355328 := by omega
  have c3 := chg_one w0 (.cells #[] 5)
  have hown3 := own_empty w0 5
  have hsrc3 := (Bk.row8_chg h c3).src
  have hone3 := oneB bs
  have hB3 : w0.heap.size ≤ (w0.alloc (.cells #[] 5)).heap.size := c3.size
  have HC3 : Hid (Chg (fun _ => False) w0 (w0.alloc (.cells #[] 5))) := c3
  clear c3 h hbl
  go_enter Tryd.func17, Tryd.ntmps17
  go_wp2_with (at_builtin; refine wpList_append_moved rfl _ _ 25 rfl w0.heap.size 5 iu (.int .u8 0) 1 1 Tryd.underlying25 hiu hu0 hu1 hu2 rfl (by decide) _ 0 [] rfl ad n c rfl ((nums bs).map (Value.int .u8)) ?h1 ?h2 ?h3 ?m1 ?m2 ?m3 ?_)
  case h1 => exact hown3
  case h2 => exact hsrc3
  case h3 => exact hone3
  case m1 => unfold maxLen; omega
  case m2 => omega
  case m3 => exact hB3
  intro v4 w4 ho4 hg4 hm4
  have c4 : Chg (fun _ => False) w0 w4 := HC3.out.grown hg4 (fun j e => .inr (by simp [Value.ownBlock] at e; omega))
  try simp only [List.nil_append, Nat.zero_add] at ho4
  obtain ⟨a4, d4, rfl⟩ := form1 ho4
  have cZ := chg_one w4 (.cells #[.int .u8 77] 5)
  have hown5 := ownsRow_keep ho4 cZ (fun _ _ f => f)
  have hsrc5 := (row8_litH w4 [77] 1 5 rfl #[.int .u8 77] rfl).src
  have hB5 : w0.heap.size ≤ (w4.alloc (.cells #[.int .u8 77] 5)).heap.size := (chg_then c4 cZ).size
  have HC5 : Hid (Chg (fun _ => False) w0 (w4.alloc (.cells #[.int .u8 77] 5))) := chg_then c4 cZ
  clear ho4 hg4 hm4 c4 hown3 hsrc3 hone3 hB3 HC3 cZ
  go_wp2_with (at_builtin; refine wpList_append_moved rfl _ _ 25 rfl w0.heap.size 5 iu (.int .u8 0) 1 1 Tryd.underlying25 hiu hu0 hu1 hu2 rfl (by decide) _ n ((nums bs).map (Value.int .u8)) rfl (some ⟨w4.heap.size, 0, none⟩) 1 1 rfl ((nums [77]).map (Value.int .u8)) ?g1 ?g2 ?g3 ?l1 ?l2 ?l3 ?_)
  case g1 => exact hown5
  case g2 => exact hsrc5
  case g3 => exact oneB [77]
  case l1 => unfold maxLen; omega
  case l2 => omega
  case l3 => exact hB5
  intro v6 w6 ho6 hg6 hm6
  have HC6 : Hid (Chg (fun _ => False) w0 w6) := HC5.out.grown hg6 (fun j e => .inr ((hown5.lt j e).1))
  have hby : ByO w6 w0.heap.size v6 (bs ++ [77]) := byO_app ho6
  obtain ⟨a6, d6, rfl⟩ := form1 ho6
  have hcap : n + 1 ≤ d6 := (byO_row hby).2.2
  have HBY : Hid (ByO w6 w0.heap.size (.slice a6 (n + 1) d6) (bs ++ [77])) := hby
  have hcut : ∀ ww, (Instr.sliceAt 25 (.slice a6 (n + 1) d6) none (some (.int .i64 (n : Int))) none).run Tryd.prog ww = .ok (.slice a6 n d6) ww := fun ww => run_cutZ_hi undBy elemBy sizeBy _ (n + 1) d6 n ww (by omega)
  clear ho6 hg6 hm6 hown5 hsrc5 hB5 hby HC5
  go_wp2
  go_ret
  exact ⟨a6, d6, rfl, HBY.out, HC6.out⟩
set_option maxHeartbeats 4000000 in
set_option maxRecDepth 100000 in
theorem held21_q (B : Nat) (la ad : Option Addr) (n lc c : Nat) (bs : List Nat) (w0 : World) (hl : ByO w0 B (.slice la (n + 1) lc) (bs ++ [77])) (h : Row8 w0 ad n c (nums bs)) (hn : n + 1 ≤ 140737488355328) : Calls Tryd.prog 19 #[.slice la n lc, .slice ad n c] w0 fun e w' => e = .returned (.bool true) ∧ ∃ k, w' = w0.drewN k := by
  obtain ⟨hr, hll, hcap⟩ := byO_row hl
  have hbl : bs.length = n := by have h9 := h.1; rw [nums_len] at h9; exact h9
  obtain ⟨b, off, rfl, hcs⟩ := row8_at hr (by omega)
  have hx := hcs n (by omega)
  have e77 : (bs ++ [77]).getD n 0 = 77 := by rw [List.getD_eq_getElem?_getD, ← hbl]; simp
  rw [e77] at hx
  have hni : (n : Int) + 1 ≤ 140737488355328 := by omega
  have hcut1 : ∀ ww, (Instr.sliceAt 25 (.slice (some ⟨b, off, none⟩) n lc) none (some (.int .i64 ((n : Int) + 1))) none).run Tryd.prog ww = .ok (.slice (some ⟨b, off, none⟩) (n + 1) lc) ww := fun ww => by
    have h9 := run_cutZ_hi undBy elemBy sizeBy (some ⟨b, off, none⟩) n lc (n + 1) ww (by omega)
    exact h9
  have hcut2 : ∀ ww, (Instr.sliceAt 25 (.slice (some ⟨b, off, none⟩) (n + 1) lc) none (some (.int .i64 (n : Int))) none).run Tryd.prog ww = .ok (.slice (some ⟨b, off, none⟩) n lc) ww := fun ww => run_cutZ_hi undBy elemBy sizeBy _ (n + 1) lc n ww (by omega)
  have hcv1 : ∀ k, (convert 25 9 (.slice ad n c)).run Tryd.prog (w0.drewN k) = .ok (.string (strOfNums (nums bs))) (w0.drewN k) := fun k => Bk.conv8 h k
  have hr2 : Row8 w0 (some ⟨b, off, none⟩) n lc (nums bs) := by
    have h9 := row8_take hr (i := n) (by omega)
    rw [List.take_append_of_le_length (by omega), List.take_of_length_le (by omega)] at h9
    exact h9
  have hcv2 : ∀ k, (convert 25 9 (.slice (some ⟨b, off, none⟩) n lc)).run Tryd.prog (w0.drewN k) = .ok (.string (strOfNums (nums bs))) (w0.drewN k) := fun k => Bk.conv8 hr2 k
  have hx0 : w0.cell? ⟨b, off + n, none⟩ = some (.int .u8 77) := hx
  clear hl h hr hll hcs hx hr2 hbl
  go_enter Tryd.func19, Tryd.ntmps19
  go_wp2_with (go_quiet (fail))
  go_ret
  exact ⟨rfl, _, rfl⟩
theorem held21_any (B : Nat) (la ad : Option Addr) (n lc c : Nat) (bs : List Nat) (w0 : World) (hl : ByO w0 B (.slice la (n + 1) lc) (bs ++ [77])) (h : Row8 w0 ad n c (nums bs)) (hn : n + 1 ≤ 140737488355328) : Calls Tryd.prog 19 #[.slice la n lc, .slice ad n c] w0 fun e w' => e = .returned (.bool true) ∧ Chg (fun _ => False) w0 w' := (held21_q B la ad n lc c bs w0 hl h hn).mono fun e w' ⟨he, k, hw⟩ => ⟨he, by rw [hw]; exact chg_drewN _ _⟩
end Go.Proofs.YtkncbanodpfccaaDoor
