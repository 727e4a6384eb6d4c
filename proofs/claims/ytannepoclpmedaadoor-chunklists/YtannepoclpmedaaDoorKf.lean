/- The program's read; of no statement by itself. -/
import Derived.Test.YtannepoclpmedaaDoorKe
import Derived.Test.YtannepoclpmedaaDoorCh
namespace Go.Proofs.YtannepoclpmedaaDoor
open Go.RowKit
open St12
set_option linter.unusedVariables false
set_option linter.unusedSimpArgs false
def kindA (f : Nat) : Nat := if 128 ≤ f then 3 + (f - 128) / 32 else f
set_option maxHeartbeats 2000000 in
theorem kindOf_q (f : Nat) (hf : f < 256) (w : World) : Calls Tryd.prog 28 #[.int .i64 (f : Int)] w fun e w' => e = .returned (.tuple #[.int .i64 ((kindA f : Nat) : Int), .bool (decide (f < 3 ∨ 128 ≤ f))]) ∧ w = w' := by
  by_cases h : 128 ≤ f
  · have d0 : decide (128 ≤ (f : Int)) = true := decide_eq_true (by omega)
    have d0' : decide (128 ≤ f) = true := decide_eq_true h
    have hf' : (f : Int) ≤ 255 := by omega
    have e1 : ((f : Int) - 128).tdiv 32 = (((f - 128) / 32 : Nat) : Int) := by
      rw [show (f : Int) - 128 = ((f - 128 : Nat) : Int) by omega]
      rfl
    have HA : Hid (((kindA f : Nat) : Int) = 3 + (((f - 128) / 32 : Nat) : Int)) := by show _ = _; unfold kindA; rw [if_pos h]; omega
    have hq : (((f - 128) / 32 : Nat) : Int) ≤ 3 := by omega
    have HD : Hid (decide (f < 3 ∨ 128 ≤ f) = true) := decide_eq_true (.inr h)
    obtain ⟨q, hq2⟩ : ∃ q, (f - 128) / 32 = q := ⟨_, rfl⟩
    rw [hq2] at e1 hq HA
    clear hq2
    go_enter Tryd.func28, Tryd.ntmps28
    go_wp2
    go_ret2
    exact ⟨by rw [HA.out, HD.out]; go_num, rfl⟩
  · have d0 : decide (128 ≤ (f : Int)) = false := decide_eq_false (by omega)
    have d0' : decide (128 ≤ f) = false := decide_eq_false h
    have HA : Hid (kindA f = f) := if_neg h
    by_cases h3 : f < 3
    · have d1 : decide ((f : Int) < 3) = true := decide_eq_true (by omega)
      have d1' : decide (f < 3) = true := decide_eq_true h3
      have HD : Hid (decide (f < 3 ∨ 128 ≤ f) = true) := decide_eq_true (.inl h3)
      go_enter Tryd.func28, Tryd.ntmps28
      go_wp2
      go_ret2
      exact ⟨by rw [HA.out, HD.out]; rfl, rfl⟩
    · have d1 : decide ((f : Int) < 3) = false := decide_eq_false (by omega)
      have d1' : decide (f < 3) = false := decide_eq_false h3
      have HD : Hid (decide (f < 3 ∨ 128 ≤ f) = false) := decide_eq_false (by omega)
      go_enter Tryd.func28, Tryd.ntmps28
      go_wp2
      go_ret2
      exact ⟨by rw [HA.out, HD.out]; rfl, rfl⟩
set_option maxHeartbeats 2000000 in
theorem lessOne_q (B a g off : Nat) (xs : List Int) (x y : Int) (w : World) (h : Wire.Rd B w a g xs off) (hb : off + 2 ≤ xs.length) (hy : (xs.drop off).take 2 = [x, y]) (x0 : 0 ≤ x) (x1 : x ≤ 255) (y0 : 0 ≤ y) (y1 : y ≤ 255) :
    Calls Tryd.prog 42 #[.pointer (some ⟨a, 0, none⟩)] w fun e w' => e = .returned (.int .i64 (x * 256 + y)) ∧ Wire.Rd B w' a g xs (off + 2) ∧ Chg (fun k => k = a) w w' := by
  have HH : Hid (Calls Tryd.prog 50 #[.pointer (some ⟨a, 0, none⟩), .int .i64 2] w fun e w' => e = .returned (.tuple #[.int .u64 (x * 256 + y), .int .i64 0]) ∧ Wire.Rd B w' a g xs (off + 2) ∧ Chg (fun k => k = a) w w') := by
    have := Wire.rhigh_core B a g off xs [x, y] 2 w h (by decide) (by decide) hb (by intro z hz; simp at hz; rcases hz with rfl | rfl <;> omega) hy
    rw [show Wire.highNum [x, y] = x * 256 + y by simp [Wire.highNum]] at this
    exact this
  clear h hb hy
  go_enter Tryd.func42, Tryd.ntmps42
  go_wp2_with fail
  refine Calls.mono HH.out ?_
  rintro z w1 ⟨rfl, hr, hc⟩
  have HE : Hid (Wire.Rd B w1 a g xs (off + 2) ∧ Chg (fun k => k = a) w w1) := ⟨hr, hc⟩
  clear HH hr hc
  go_wp2
  go_ret
  exact ⟨by go_num, HE.out.1, HE.out.2⟩
/-- What is known between two calls: the reader, the chunk that is being filled, the result's cells, the tables. -/
structure Rg (w w1 : World) (k s p lc lp pb : Int) (a g : Nat) (xs : List Int) (off : Nat) : Prop where
  chg : Chg (fun _ => False) w w1
  rd : Wire.Rd (w.heap.size + 2) w1 a g xs off
  box : w1.heap[w.heap.size + 1]? = some (.cells #[.int .i64 k, .int .i64 s, .int .i64 p, .int .i64 lc, .int .i64 lp, .int .i64 pb] 25 (0, 0))
  res : w1.heap[w.heap.size]? = some (.cells #[.int .i64 0, .int .i64 0, .int .i64 0, .int .i64 0, .int .i64 0, .int .i64 0] 25 (0, 0))
  tab : Tab w1
  low : 1 < w.heap.size ∧ 0 < w.heap.size
section
variable {w w1 w2 : World} {k s p lc lp pb : Int} {a g off off' : Nat} {xs : List Int}
theorem tab_keepS {S : Nat → Prop} (h : Tab w1) (hl : 1 < w.heap.size ∧ 0 < w.heap.size) (hc : Chg S w1 w2) (hS : ∀ k, S k → w.heap.size ≤ k) : Tab w2 := by
  obtain ⟨⟨y0, r0, h0⟩, ⟨y1, r1, h1⟩⟩ := h
  exact ⟨⟨y0, r0, blk_keep h0 hc (fun hk => by have := hS _ hk; omega)⟩, ⟨y1, r1, blk_keep h1 hc (fun hk => by have := hS _ hk; omega)⟩⟩
theorem Rg.call (h : Rg w w1 k s p lc lp pb a g xs off) (hr : Wire.Rd (w.heap.size + 2) w2 a g xs off') (hc : Chg (fun k => k = a) w1 w2) : Rg w w2 k s p lc lp pb a g xs off' := by
  have ha := h.rd.loA
  exact ⟨h.chg.trans hc (fun k e => .inr (by omega)), hr, blk_keep h.box hc (by omega), blk_keep h.res hc (by omega), tab_keepS (w := w) h.tab h.low hc (fun k e => by omega), h.low⟩
theorem Rg.free (h : Rg w w1 k s p lc lp pb a g xs off) (hc : Chg (fun _ => False) w1 w2) : Rg w w2 k s p lc lp pb a g xs off :=
  ⟨chg_then h.chg hc, h.rd.keep hc (fun f => f) (fun f => f), blk_keep h.box hc (fun f => f), blk_keep h.res hc (fun f => f), tab_keep h.tab hc, h.low⟩
theorem Rg.put (h : Rg w w1 k s p lc lp pb a g xs off) {k' s' p' lc' lp' pb' : Int} (hb : w2.heap[w.heap.size + 1]? = some (.cells #[.int .i64 k', .int .i64 s', .int .i64 p', .int .i64 lc', .int .i64 lp', .int .i64 pb'] 25 (0, 0))) (hc : Chg (fun k => k = w.heap.size + 1) w1 w2) : Rg w w2 k' s' p' lc' lp' pb' a g xs off := by
  have ha := h.rd.loA
  have hg := h.rd.loG
  exact ⟨h.chg.trans hc (fun k e => .inr (by omega)), h.rd.keep hc (by omega) (by omega), hb, blk_keep h.res hc (by omega), tab_keepS (w := w) h.tab h.low hc (fun k e => by omega), h.low⟩
theorem Rg.set1 (h : Rg w w1 k s p lc lp pb a g xs off) (s' : Int) : Rg w (w1.setCell ⟨w.heap.size + 1, 1, none⟩ (.int .i64 s')) k s' p lc lp pb a g xs off :=
  h.put (blk_setk (l := [.int .i64 k, .int .i64 s, .int .i64 p, .int .i64 lc, .int .i64 lp, .int .i64 pb]) h.box 1 (.int .i64 s')) ((Chg.refl (fun k => k = w.heap.size + 1) _).setCell (p := ⟨w.heap.size + 1, 1, none⟩) (.inl rfl) _)
theorem Rg.set2 (h : Rg w w1 k s p lc lp pb a g xs off) (p' : Int) : Rg w (w1.setCell ⟨w.heap.size + 1, 2, none⟩ (.int .i64 p')) k s p' lc lp pb a g xs off :=
  h.put (blk_setk (l := [.int .i64 k, .int .i64 s, .int .i64 p, .int .i64 lc, .int .i64 lp, .int .i64 pb]) h.box 2 (.int .i64 p')) ((Chg.refl (fun k => k = w.heap.size + 1) _).setCell (p := ⟨w.heap.size + 1, 2, none⟩) (.inl rfl) _)
theorem Rg.cells (h : Rg w w1 k s p lc lp pb a g xs off) : (w1.cell? ⟨w.heap.size + 1, 1, none⟩ = some (.int .i64 s) ∧ w1.frozen? ⟨w.heap.size + 1, 1, none⟩ = false) ∧ (w1.cell? ⟨w.heap.size + 1, 2, none⟩ = some (.int .i64 p) ∧ w1.frozen? ⟨w.heap.size + 1, 2, none⟩ = false) := by
  obtain ⟨k0, k1, k2, k3, k4, k5⟩ := cells6 h.box
  exact ⟨⟨k1, by simp [World.frozen?, h.box]⟩, ⟨k2, by simp [World.frozen?, h.box]⟩⟩
end
/-- What read answers. -/
def readA (K : Nat) (bs : List Nat) : Chk × Int :=
  if formN K = 0 then (⟨K, 0, 0, 0, 0, 0⟩, 0)
  else if formN K = 1 then (⟨K, (Ck17.at_ bs 1 : Int) * 256 + (Ck17.at_ bs 2 : Int) + 1, (Ck17.at_ bs 1 : Int) * 256 + (Ck17.at_ bs 2 : Int) + 1, 0, 0, 0⟩, 0)
  else if formN K = 2 then (⟨K, (Ck17.at_ bs 1 : Int) * 256 + (Ck17.at_ bs 2 : Int) + 1 + ((Ck17.at_ bs 0 % 32 : Nat) : Int) * 65536, (Ck17.at_ bs 3 : Int) * 256 + (Ck17.at_ bs 4 : Int) + 1, 0, 0, 0⟩, 0)
  else (⟨K, (Ck17.at_ bs 1 : Int) * 256 + (Ck17.at_ bs 2 : Int) + 1 + ((Ck17.at_ bs 0 % 32 : Nat) : Int) * 65536, (Ck17.at_ bs 3 : Int) * 256 + (Ck17.at_ bs 4 : Int) + 1, (propsB (Ck17.at_ bs 5 : Int)).1.lc, (propsB (Ck17.at_ bs 5 : Int)).1.lp, (propsB (Ck17.at_ bs 5 : Int)).1.pb⟩, (propsB (Ck17.at_ bs 5 : Int)).2)
def lenN (F : Nat) : Nat := if F = 0 then 1 else if F = 1 then 3 else if F = 2 then 5 else 6
theorem fresh_box (w : World) (K : Nat) (hT : Tab w) : ∃ W, W = ((w.alloc (.cells #[.int .i64 0, .int .i64 0, .int .i64 0, .int .i64 0, .int .i64 0, .int .i64 0] 25)).alloc (.cells #[.int .i64 (K : Int), .int .i64 0, .int .i64 0, .int .i64 0, .int .i64 0, .int .i64 0] 25)) ∧ Chg (fun _ => False) w W ∧ W.heap[w.heap.size + 1]? = some (.cells #[.int .i64 (K : Int), .int .i64 0, .int .i64 0, .int .i64 0, .int .i64 0, .int .i64 0] 25 (0, 0)) ∧ W.heap[w.heap.size]? = some (.cells #[.int .i64 0, .int .i64 0, .int .i64 0, .int .i64 0, .int .i64 0, .int .i64 0] 25 (0, 0)) ∧ Tab W := by
  have h2 := heap_alloc_last (w.alloc (.cells #[.int .i64 0, .int .i64 0, .int .i64 0, .int .i64 0, .int .i64 0, .int .i64 0] 25)) (.cells #[.int .i64 (K : Int), .int .i64 0, .int .i64 0, .int .i64 0, .int .i64 0, .int .i64 0] 25)
  rw [World.size_alloc] at h2
  have c1 : Chg (fun _ => False) w ((w.alloc (.cells #[.int .i64 0, .int .i64 0, .int .i64 0, .int .i64 0, .int .i64 0, .int .i64 0] 25)).alloc (.cells #[.int .i64 (K : Int), .int .i64 0, .int .i64 0, .int .i64 0, .int .i64 0, .int .i64 0] 25)) := ((Chg.refl _ w).alloc _).alloc _
  exact ⟨_, rfl, c1, h2, blk_keep (heap_alloc_last w _) (chg_one _ _) (fun f => f), tab_keep hT c1⟩
theorem nums_getD (bs : List Nat) (i : Nat) : (nums bs).getD i 0 = ((Ck17.at_ bs i : Nat) : Int) := by
  unfold Ck17.at_ nums
  rw [List.getD_eq_getElem?_getD, List.getD_eq_getElem?_getD, List.getElem?_map]
  cases bs[i]? <;> rfl
theorem nums_two (bs : List Nat) (i : Nat) (h : i + 2 ≤ bs.length) : ((nums bs).drop i).take 2 = [((Ck17.at_ bs i : Nat) : Int), ((Ck17.at_ bs (i + 1) : Nat) : Int)] := by
  have h0 : (nums bs)[i]? = some ((Ck17.at_ bs i : Nat) : Int) := by rw [← nums_getD, List.getD_eq_getElem?_getD, List.getElem?_eq_getElem (by rw [nums_len]; omega)]; rfl
  have h1 : (nums bs)[i + 1]? = some ((Ck17.at_ bs (i + 1) : Nat) : Int) := by rw [← nums_getD, List.getD_eq_getElem?_getD, List.getElem?_eq_getElem (by rw [nums_len]; omega)]; rfl
  apply List.ext_getElem?
  intro j
  rw [List.getElem?_take]
  match j with
  | 0 => rw [if_pos (by decide), List.getElem?_drop]; exact h0
  | 1 => rw [if_pos (by decide), List.getElem?_drop]; exact h1
  | j + 2 => rw [if_neg (by omega)]; simp
set_option maxHeartbeats 4000000 in
set_option maxRecDepth 100000 in
theorem read_q (K : Nat) (hK : K ≤ 6) (ad : Option Addr) (c n : Nat) (bs : List Nat) (w : World) (hT : Tab w) (hr : Row8 w ad n c (nums bs)) (hdg : Rc.Dig bs) (hn : n = lenN (formN K)) : Calls Tryd.prog 29 #[.int .i64 (K : Int), .slice ad n c] w fun e w' => e = .returned (.tuple #[chv (readA K bs).1, .int .i64 (readA K bs).2]) ∧ Chg (fun _ => False) w w' := by
  have hbl : bs.length = n := by have h9 := hr.1; rw [nums_len] at h9; exact h9
  obtain ⟨W, hW, cW, bW, rW, tW⟩ := fresh_box w K hT
  have hlow := hT.low
  have HR : Hid (Row8 W ad n c (nums bs)) := row8_keep hr cW (fun _ _ f => f)
  have HW : Hid (Chg (fun _ => False) w W ∧ W.heap[w.heap.size + 1]? = some (.cells #[.int .i64 (K : Int), .int .i64 0, .int .i64 0, .int .i64 0, .int .i64 0, .int .i64 0] 25 (0, 0)) ∧ W.heap[w.heap.size]? = some (.cells #[.int .i64 0, .int .i64 0, .int .i64 0, .int .i64 0, .int .i64 0, .int .i64 0] 25 (0, 0)) ∧ Tab W) := ⟨cW, bW, rW, tW⟩
  have HLW : Hid (1 < w.heap.size ∧ 0 < w.heap.size) := hlow
  have HS : Hid (w.heap.size + 2 ≤ W.heap.size) := by show _ ≤ _; rw [hW]; simp
  have HWE : Hid _ := hW
  have HBL : Hid (bs.length = n) := hbl
  have HNN : Hid (n = lenN (formN K)) := hn
  have HAT : Hid (∀ i, Ck17.at_ bs i < 256) := fun i => by
    unfold Ck17.at_
    rw [List.getD_eq_getElem?_getD]
    cases e : bs[i]? with
    | none => simp
    | some y => exact hdg y (List.mem_of_getElem? e)
  have hn6 : n ≤ 6 := by rw [hn]; unfold lenN; (repeat' split) <;> omega
  clear hT hr hW cW bW rW tW hlow hdg hbl hn
  go_enter Tryd.func29, Tryd.ntmps29
  go_wp2_with fail
  rw [← HWE.out]
  clear HWE
  refine Calls.mono (Wire.newReader_any (w.heap.size + 2) ad n c (nums bs) W HR.out (by omega) HS.out) ?_
  rintro z w2 ⟨a, rfl, hrd, c2, ha⟩
  have HG : Hid (Rg w w2 K 0 0 0 0 0 a W.heap.size (nums bs) 0) := ⟨chg_then HW.out.1 c2, hrd, blk_keep HW.out.2.1 c2 (fun f => f), blk_keep HW.out.2.2.1 c2 (fun f => f), tab_keep HW.out.2.2.2 c2, HLW.out⟩
  generalize W.heap.size = gg at *
  clear hrd c2 ha HR HW HLW HS
  have hf9 := HAT.out 0
  obtain ⟨f, hf⟩ : ∃ f, Ck17.at_ bs 0 = f := ⟨_, rfl⟩
  have HU : Hid (Calls Tryd.prog 41 #[.pointer (some ⟨a, 0, none⟩)] w2 fun e w' => e = .returned (.tuple #[.int .i64 (f : Int), .int .i64 0]) ∧ Wire.Rd (w.heap.size + 2) w' a gg (nums bs) 1 ∧ Chg (fun k => k = a) w2 w') := Wire.u8_ok (w.heap.size + 2) a gg 0 (nums bs) (f : Int) w2 HG.out.rd (by rw [nums_len, HBL.out, HNN.out]; unfold lenN; (repeat' split) <;> omega) (by rw [← hf]; exact nums_getD bs 0) (by omega) (by omega)
  have hfi : (f : Int) ≤ 255 := by omega
  have HF0 : Hid (Ck17.at_ bs 0 = f) := hf
  clear hf hf9
  go_wp2_with fail
  refine Calls.mono HU.out ?_
  rintro z w3 ⟨rfl, hr3, c3⟩
  have HG3 : Hid _ := HG.out.call hr3 c3
  clear HG HU hr3 c3
  have HQ := tab_form HG3.out.tab hK
  obtain ⟨F, hF⟩ : ∃ F, formN K = F := ⟨_, rfl⟩
  have hF3 : F ≤ 3 := by rw [← hF]; unfold formN; (repeat' split) <;> omega
  rw [hF] at HQ
  have hq := HQ.out
  have HFF : Hid (formN K = F) := hF
  have HN2 : Hid (n = lenN F) := by show _ = _; rw [HNN.out, hF]
  clear HQ hF HNN
  by_cases e0 : F = 0
  · subst e0
    replace hq : w3.cell? ⟨1, K, none⟩ = some (.int .i64 0) := hq
    clear hF3
    have HA : Hid (readA K bs = (⟨K, 0, 0, 0, 0, 0⟩, 0)) := by show _ = _; unfold readA; rw [if_pos HFF.out]
    have HGE : Hid _ := HG3
    obtain ⟨x0, x1, x2, x3, x4, x5⟩ := cells6 HGE.out.box
    obtain ⟨⟨y0, h0⟩, ⟨y1, h1⟩, ⟨y2, h2⟩, ⟨y3, h3⟩, ⟨y4, h4⟩, ⟨y5, h5⟩, hend, cS⟩ := store6 HGE.out.res (.int .i64 (K : Int)) (.int .i64 0) (.int .i64 0) (.int .i64 0) (.int .i64 0) (.int .i64 0)
    have HE : Hid _ := cells6 hend
    have HCE : Hid (Chg (fun _ => False) w _) := HGE.out.chg.trans cS (fun z e => .inr (by omega))
    clear hend cS HG3 HGE
    go_wp2
    obtain ⟨z0, z1, z2, z3, z4, z5⟩ := HE.out
    refine bodyPost_ret (v := .tuple #[.agg #[.int .i64 (K : Int), .int .i64 0, .int .i64 0, .int .i64 0, .int .i64 0, .int .i64 0], .int .i64 0]) (by simp [results, Tryd.results29, go_sem, z0, z1, z2, z3, z4, z5]) rfl ?_
    exact ⟨by rw [HA.out]; rfl, HCE.out⟩
  by_cases e1 : F = 1
  · subst e1
    replace hq : w3.cell? ⟨1, K, none⟩ = some (.int .i64 1) := hq
    clear hF3
    obtain ⟨B1, hB1⟩ : ∃ x, Ck17.at_ bs 1 = x := ⟨_, rfl⟩
    have HB1 : Hid (Ck17.at_ bs 1 = B1) := hB1
    have b1 : (B1 : Int) ≤ 255 := by have := HAT.out 1; omega
    clear hB1
    obtain ⟨B2, hB2⟩ : ∃ x, Ck17.at_ bs 2 = x := ⟨_, rfl⟩
    have HB2 : Hid (Ck17.at_ bs 2 = B2) := hB2
    have b2 : (B2 : Int) ≤ 255 := by have := HAT.out 2; omega
    clear hB2
    have HA : Hid (readA K bs = (⟨K, ((B1 : Int) * 256 + (B2 : Int) + 1), ((B1 : Int) * 256 + (B2 : Int) + 1), 0, 0, 0⟩, 0)) := by show _ = _; unfold readA; rw [HFF.out, if_neg (by decide), if_pos rfl, HB1.out, HB2.out]
    have HL3 : Hid _ := lessOne_q (w.heap.size + 2) a gg 1 (nums bs) (B1 : Int) (B2 : Int) _ HG3.out.rd (by rw [nums_len, HBL.out, HN2.out]; decide) (by rw [nums_two bs 1 (by rw [HBL.out, HN2.out]; decide), HB1.out, HB2.out]) (by omega) (by omega) (by omega) (by omega)
    go_wp2_with fail
    refine Calls.mono HL3.out ?_
    rintro z w4 ⟨rfl, hr4, c4⟩
    have HG4 : Hid _ := (HG3.out.call hr4 c4)
    have HG5 : Hid _ := (HG4.out.set1 ((B1 : Int) * 256 + (B2 : Int) + 1))
    have HG6 : Hid _ := (HG5.out.set2 ((B1 : Int) * 256 + (B2 : Int) + 1))
    obtain ⟨⟨k1, f1⟩, _⟩ := HG4.out.cells
    obtain ⟨⟨k1', f1'⟩, ⟨k2', f2'⟩⟩ := HG5.out.cells
    clear HL3 HG3 HG4 HG5 hr4 c4 hq
    have HGE : Hid _ := HG6
    obtain ⟨x0, x1, x2, x3, x4, x5⟩ := cells6 HGE.out.box
    obtain ⟨⟨y0, h0⟩, ⟨y1, h1⟩, ⟨y2, h2⟩, ⟨y3, h3⟩, ⟨y4, h4⟩, ⟨y5, h5⟩, hend, cS⟩ := store6 HGE.out.res (.int .i64 (K : Int)) (.int .i64 ((B1 : Int) * 256 + (B2 : Int) + 1)) (.int .i64 ((B1 : Int) * 256 + (B2 : Int) + 1)) (.int .i64 0) (.int .i64 0) (.int .i64 0)
    have HE : Hid _ := cells6 hend
    have HCE : Hid (Chg (fun _ => False) w _) := HGE.out.chg.trans cS (fun z e => .inr (by omega))
    clear hend cS HG6 HGE
    go_wp2
    obtain ⟨z0, z1, z2, z3, z4, z5⟩ := HE.out
    refine bodyPost_ret (v := .tuple #[.agg #[.int .i64 (K : Int), .int .i64 ((B1 : Int) * 256 + (B2 : Int) + 1), .int .i64 ((B1 : Int) * 256 + (B2 : Int) + 1), .int .i64 0, .int .i64 0, .int .i64 0], .int .i64 0]) (by simp [results, Tryd.results29, go_sem, z0, z1, z2, z3, z4, z5]) rfl ?_
    exact ⟨by rw [HA.out]; rfl, HCE.out⟩
  by_cases e2 : F = 2
  · subst e2
    replace hq : w3.cell? ⟨1, K, none⟩ = some (.int .i64 2) := hq
    clear hF3
    obtain ⟨B1, hB1⟩ : ∃ x, Ck17.at_ bs 1 = x := ⟨_, rfl⟩
    have HB1 : Hid (Ck17.at_ bs 1 = B1) := hB1
    have b1 : (B1 : Int) ≤ 255 := by have := HAT.out 1; omega
    clear hB1
    obtain ⟨B2, hB2⟩ : ∃ x, Ck17.at_ bs 2 = x := ⟨_, rfl⟩
    have HB2 : Hid (Ck17.at_ bs 2 = B2) := hB2
    have b2 : (B2 : Int) ≤ 255 := by have := HAT.out 2; omega
    clear hB2
    obtain ⟨B3, hB3⟩ : ∃ x, Ck17.at_ bs 3 = x := ⟨_, rfl⟩
    have HB3 : Hid (Ck17.at_ bs 3 = B3) := hB3
    have b3 : (B3 : Int) ≤ 255 := by have := HAT.out 3; omega
    clear hB3
    obtain ⟨B4, hB4⟩ : ∃ x, Ck17.at_ bs 4 = x := ⟨_, rfl⟩
    have HB4 : Hid (Ck17.at_ bs 4 = B4) := hB4
    have b4 : (B4 : Int) ≤ 255 := by have := HAT.out 4; omega
    clear hB4
    obtain ⟨FM, hFM⟩ : ∃ m, f % 32 = m := ⟨_, rfl⟩
    have tm : (f : Int).tmod 32 = (FM : Int) := by rw [← hFM]; rfl
    have m31 : (FM : Int) ≤ 31 := by omega
    have HA : Hid (readA K bs = (⟨K, ((B1 : Int) * 256 + (B2 : Int) + 1 + (FM : Int) * 65536), ((B3 : Int) * 256 + (B4 : Int) + 1), 0, 0, 0⟩, 0)) := by show _ = _; unfold readA; rw [HFF.out, if_neg (by decide), if_neg (by decide), if_pos rfl, HB1.out, HB2.out, HB3.out, HB4.out, HF0.out, hFM]
    clear hFM
    have HL3 : Hid _ := lessOne_q (w.heap.size + 2) a gg 1 (nums bs) (B1 : Int) (B2 : Int) _ HG3.out.rd (by rw [nums_len, HBL.out, HN2.out]; decide) (by rw [nums_two bs 1 (by rw [HBL.out, HN2.out]; decide), HB1.out, HB2.out]) (by omega) (by omega) (by omega) (by omega)
    go_wp2_with fail
    refine Calls.mono HL3.out ?_
    rintro z w4 ⟨rfl, hr4, c4⟩
    have HG4 : Hid _ := (HG3.out.call hr4 c4)
    have HG5 : Hid _ := (HG4.out.set1 ((B1 : Int) * 256 + (B2 : Int) + 1))
    have HG6 : Hid _ := (HG5.out.set2 ((B1 : Int) * 256 + (B2 : Int) + 1))
    obtain ⟨⟨k1, f1⟩, _⟩ := HG4.out.cells
    obtain ⟨⟨k1', f1'⟩, ⟨k2', f2'⟩⟩ := HG5.out.cells
    clear HL3 HG3 HG4 HG5 hr4 c4 hq
    obtain ⟨⟨q1, g1⟩, ⟨q2, g2⟩⟩ := HG6.out.cells
    have HG7 : Hid _ := (HG6.out.set1 ((B1 : Int) * 256 + (B2 : Int) + 1 + (FM : Int) * 65536))
    have HL7 : Hid _ := lessOne_q (w.heap.size + 2) a gg 3 (nums bs) (B3 : Int) (B4 : Int) _ HG7.out.rd (by rw [nums_len, HBL.out, HN2.out]; decide) (by rw [nums_two bs 3 (by rw [HBL.out, HN2.out]; decide), HB3.out, HB4.out]) (by omega) (by omega) (by omega) (by omega)
    obtain ⟨_, ⟨u2, v2⟩⟩ := HG7.out.cells
    go_wp2_with fail
    refine Calls.mono HL7.out ?_
    rintro z w8 ⟨rfl, hr8, c8⟩
    have HG8 : Hid _ := (HG7.out.call hr8 c8)
    have HG9 : Hid _ := (HG8.out.set2 ((B3 : Int) * 256 + (B4 : Int) + 1))
    clear k1 f1 k1' f1' k2' f2' q1 g1 q2 g2 u2 v2 HL7 HG6 HG7 hr8 c8
    obtain ⟨_, ⟨q2, g2⟩⟩ := HG8.out.cells
    clear HG8
    have HGE : Hid _ := HG9
    obtain ⟨x0, x1, x2, x3, x4, x5⟩ := cells6 HGE.out.box
    obtain ⟨⟨y0, h0⟩, ⟨y1, h1⟩, ⟨y2, h2⟩, ⟨y3, h3⟩, ⟨y4, h4⟩, ⟨y5, h5⟩, hend, cS⟩ := store6 HGE.out.res (.int .i64 (K : Int)) (.int .i64 ((B1 : Int) * 256 + (B2 : Int) + 1 + (FM : Int) * 65536)) (.int .i64 ((B3 : Int) * 256 + (B4 : Int) + 1)) (.int .i64 0) (.int .i64 0) (.int .i64 0)
    have HE : Hid _ := cells6 hend
    have HCE : Hid (Chg (fun _ => False) w _) := HGE.out.chg.trans cS (fun z e => .inr (by omega))
    clear hend cS HG9 HGE
    go_wp2
    obtain ⟨z0, z1, z2, z3, z4, z5⟩ := HE.out
    refine bodyPost_ret (v := .tuple #[.agg #[.int .i64 (K : Int), .int .i64 ((B1 : Int) * 256 + (B2 : Int) + 1 + (FM : Int) * 65536), .int .i64 ((B3 : Int) * 256 + (B4 : Int) + 1), .int .i64 0, .int .i64 0, .int .i64 0], .int .i64 0]) (by simp [results, Tryd.results29, go_sem, z0, z1, z2, z3, z4, z5]) rfl ?_
    exact ⟨by rw [HA.out]; rfl, HCE.out⟩
  obtain e3 : F = 3 := by omega
  subst e3
  replace hq : w3.cell? ⟨1, K, none⟩ = some (.int .i64 3) := hq
  clear hF3
  obtain ⟨B1, hB1⟩ : ∃ x, Ck17.at_ bs 1 = x := ⟨_, rfl⟩
  have HB1 : Hid (Ck17.at_ bs 1 = B1) := hB1
  have b1 : (B1 : Int) ≤ 255 := by have := HAT.out 1; omega
  clear hB1
  obtain ⟨B2, hB2⟩ : ∃ x, Ck17.at_ bs 2 = x := ⟨_, rfl⟩
  have HB2 : Hid (Ck17.at_ bs 2 = B2) := hB2
  have b2 : (B2 : Int) ≤ 255 := by have := HAT.out 2; omega
  clear hB2
  obtain ⟨B3, hB3⟩ : ∃ x, Ck17.at_ bs 3 = x := ⟨_, rfl⟩
  have HB3 : Hid (Ck17.at_ bs 3 = B3) := hB3
  have b3 : (B3 : Int) ≤ 255 := by have := HAT.out 3; omega
  clear hB3
  obtain ⟨B4, hB4⟩ : ∃ x, Ck17.at_ bs 4 = x := ⟨_, rfl⟩
  have HB4 : Hid (Ck17.at_ bs 4 = B4) := hB4
  have b4 : (B4 : Int) ≤ 255 := by have := HAT.out 4; omega
  clear hB4
  obtain ⟨B5, hB5⟩ : ∃ x, Ck17.at_ bs 5 = x := ⟨_, rfl⟩
  have HB5 : Hid (Ck17.at_ bs 5 = B5) := hB5
  have b5 : (B5 : Int) ≤ 255 := by have := HAT.out 5; omega
  clear hB5
  obtain ⟨FM, hFM⟩ : ∃ m, f % 32 = m := ⟨_, rfl⟩
  have tm : (f : Int).tmod 32 = (FM : Int) := by rw [← hFM]; rfl
  have m31 : (FM : Int) ≤ 31 := by omega
  have HBP : Hid (∀ ww, Calls Tryd.prog 43 #[.int .i64 (B5 : Int)] ww fun e w' => e = .returned (.tuple #[prv (propsB (B5 : Int)).1, .int .i64 (propsB (B5 : Int)).2]) ∧ Chg (fun _ => False) ww w') := tbp_any (B5 : Int) ⟨by omega, by omega⟩
  obtain ⟨R, hR⟩ : ∃ R, (propsB (B5 : Int)).1 = R := ⟨_, rfl⟩
  obtain ⟨er, her⟩ : ∃ er, (propsB (B5 : Int)).2 = er := ⟨_, rfl⟩
  rw [hR, her] at HBP
  have HA : Hid (readA K bs = (⟨K, ((B1 : Int) * 256 + (B2 : Int) + 1 + (FM : Int) * 65536), ((B3 : Int) * 256 + (B4 : Int) + 1), R.lc, R.lp, R.pb⟩, er)) := by show _ = _; unfold readA; rw [HFF.out, if_neg (by decide), if_neg (by decide), if_neg (by decide), HB1.out, HB2.out, HB3.out, HB4.out, HB5.out, HF0.out, hFM, hR, her]
  clear hFM
  obtain ⟨r1, r2, r3⟩ := R
  replace HBP : Hid (∀ ww, Calls Tryd.prog 43 #[.int .i64 (B5 : Int)] ww fun e w' => e = .returned (.tuple #[.agg #[.int .i64 r1, .int .i64 r2, .int .i64 r3], .int .i64 er]) ∧ Chg (fun _ => False) ww w') := HBP
  clear hR her
  have HL3 : Hid _ := lessOne_q (w.heap.size + 2) a gg 1 (nums bs) (B1 : Int) (B2 : Int) _ HG3.out.rd (by rw [nums_len, HBL.out, HN2.out]; decide) (by rw [nums_two bs 1 (by rw [HBL.out, HN2.out]; decide), HB1.out, HB2.out]) (by omega) (by omega) (by omega) (by omega)
  go_wp2_with fail
  refine Calls.mono HL3.out ?_
  rintro z w4 ⟨rfl, hr4, c4⟩
  have HG4 : Hid _ := (HG3.out.call hr4 c4)
  have HG5 : Hid _ := (HG4.out.set1 ((B1 : Int) * 256 + (B2 : Int) + 1))
  have HG6 : Hid _ := (HG5.out.set2 ((B1 : Int) * 256 + (B2 : Int) + 1))
  obtain ⟨⟨k1, f1⟩, _⟩ := HG4.out.cells
  obtain ⟨⟨k1', f1'⟩, ⟨k2', f2'⟩⟩ := HG5.out.cells
  clear HL3 HG3 HG4 HG5 hr4 c4 hq
  obtain ⟨⟨q1, g1⟩, ⟨q2, g2⟩⟩ := HG6.out.cells
  have HG7 : Hid _ := (HG6.out.set1 ((B1 : Int) * 256 + (B2 : Int) + 1 + (FM : Int) * 65536))
  have HL7 : Hid _ := lessOne_q (w.heap.size + 2) a gg 3 (nums bs) (B3 : Int) (B4 : Int) _ HG7.out.rd (by rw [nums_len, HBL.out, HN2.out]; decide) (by rw [nums_two bs 3 (by rw [HBL.out, HN2.out]; decide), HB3.out, HB4.out]) (by omega) (by omega) (by omega) (by omega)
  obtain ⟨_, ⟨u2, v2⟩⟩ := HG7.out.cells
  go_wp2_with fail
  refine Calls.mono HL7.out ?_
  rintro z w8 ⟨rfl, hr8, c8⟩
  have HG8 : Hid _ := (HG7.out.call hr8 c8)
  have HG9 : Hid _ := (HG8.out.set2 ((B3 : Int) * 256 + (B4 : Int) + 1))
  clear k1 f1 k1' f1' k2' f2' q1 g1 q2 g2 u2 v2 HL7 HG6 HG7 hr8 c8
  obtain ⟨_, ⟨q2, g2⟩⟩ := HG8.out.cells
  clear HG8
  have HU9 : Hid (Calls Tryd.prog 41 #[.pointer (some ⟨a, 0, none⟩)] _ fun e w' => e = .returned (.tuple #[.int .i64 (B5 : Int), .int .i64 0]) ∧ Wire.Rd (w.heap.size + 2) w' a gg (nums bs) 6 ∧ Chg (fun k => k = a) _ w') := Wire.u8_ok (w.heap.size + 2) a gg 5 (nums bs) (B5 : Int) _ HG9.out.rd (by rw [nums_len, HBL.out, HN2.out]; decide) (by rw [nums_getD, HB5.out]) (by omega) (by omega)
  go_wp2_with fail
  refine Calls.mono HU9.out ?_
  rintro z w10 ⟨rfl, hr10, c10⟩
  have HG10 : Hid _ := HG9.out.call hr10 c10
  clear HU9 HG9 hr10 c10 q2 g2
  go_wp2_with fail
  refine Calls.mono (HBP.out _) ?_
  rintro z w11 ⟨rfl, c11⟩
  have HG11 : Hid _ := HG10.out.free c11
  obtain ⟨⟨k3, f3⟩, ⟨k4, f4⟩, ⟨k5, f5⟩, hend, cS⟩ := storeP HG11.out.box (.int .i64 r1) (.int .i64 r2) (.int .i64 r3)
  have HG12 : Hid _ := HG11.out.put hend cS
  clear hend cS c11 HBP HG10 HG11
  have HGE : Hid _ := HG12
  obtain ⟨x0, x1, x2, x3, x4, x5⟩ := cells6 HGE.out.box
  obtain ⟨⟨y0, h0⟩, ⟨y1, h1⟩, ⟨y2, h2⟩, ⟨y3, h3⟩, ⟨y4, h4⟩, ⟨y5, h5⟩, hend, cS⟩ := store6 HGE.out.res (.int .i64 (K : Int)) (.int .i64 ((B1 : Int) * 256 + (B2 : Int) + 1 + (FM : Int) * 65536)) (.int .i64 ((B3 : Int) * 256 + (B4 : Int) + 1)) (.int .i64 r1) (.int .i64 r2) (.int .i64 r3)
  have HE : Hid _ := cells6 hend
  have HCE : Hid (Chg (fun _ => False) w _) := HGE.out.chg.trans cS (fun z e => .inr (by omega))
  clear hend cS HG12 HGE
  go_wp2
  obtain ⟨z0, z1, z2, z3, z4, z5⟩ := HE.out
  refine bodyPost_ret (v := .tuple #[.agg #[.int .i64 (K : Int), .int .i64 ((B1 : Int) * 256 + (B2 : Int) + 1 + (FM : Int) * 65536), .int .i64 ((B3 : Int) * 256 + (B4 : Int) + 1), .int .i64 r1, .int .i64 r2, .int .i64 r3], .int .i64 er]) (by simp [results, Tryd.results29, go_sem, z0, z1, z2, z3, z4, z5]) rfl ?_
  exact ⟨by rw [HA.out]; rfl, HCE.out⟩
end Go.Proofs.YtannepoclpmedaaDoor
