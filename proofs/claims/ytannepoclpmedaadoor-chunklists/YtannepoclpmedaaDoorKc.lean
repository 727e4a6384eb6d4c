/- The program's Put; of no statement by itself. -/
import Derived.Test.YtannepoclpmedaaDoorKb
namespace Go.Proofs.YtannepoclpmedaaDoor
open Go.RowKit
open St12
set_option linter.unusedVariables false
set_option linter.unusedSimpArgs false
/-- The bytes of a head, as they are written. -/
def writtenA (K : Nat) (s p pr : Int) : List Int :=
  (((firstA K s : Nat) : Int) :: (if 1 ≤ formN K then [(s - 1) / 256 % 256, (s - 1) % 256] else [])) ++ (if 2 ≤ formN K then [(p - 1) / 256 % 256, (p - 1) % 256] else []) ++ (if formN K = 3 then [pr] else [])
theorem high2 (x : Int) : Wire.highBytes x 2 = [x / 256 % 256, x % 256] := by
  simp [Wire.highBytes, Wire.highTo, Wire.byteAt, List.range_succ]
theorem wr_step {w w1 w2 : World} {a : Nat} {v : Value} {bs : List Int} (h0 : Chg (fun _ => False) w w1) (hw : Wire.Wr w.heap.size w1 a v bs) (hc : Chg (Foot a v) w1 w2) : Chg (fun _ => False) w w2 := h0.trans hc (fun k hk => .inr (hw.foot k hk).1)
theorem wr_box {B : Nat} {w1 w2 : World} {a bx : Nat} {v : Value} {bs : List Int} {cs : Array Value} (hw : Wire.Wr B w1 a v bs) (hb : w1.heap[bx]? = some (.cells cs 25 (0, 0))) (hne : bx ≠ a) (hc : Chg (Foot a v) w1 w2) : w2.heap[bx]? = some (.cells cs 25 (0, 0)) := blk_keep hb hc (by
  rintro (e | e)
  · exact hne e
  · exact row_ne hw.row hb (by decide) e)
theorem byO_blk {w : World} {B g : Nat} {bs : List Nat} (h : w.heap[g]? = some (.cells (Wire.cells8 (nums bs)).toArray 5 (0, 0))) (hB : B ≤ g) (hl : bs.length ≤ 1000) : ByO w B (.slice (some ⟨g, 0, none⟩) bs.length bs.length) bs := by
  have e : (Wire.cells8 (nums bs)).length = bs.length := by simp [Wire.cells8, nums]
  refine ⟨by simp [ins, nums], .inr ⟨g, bs.length, _, rfl, hB, h, Nat.le_refl _, by unfold maxLen; omega, by simp [Wire.cells8, nums], ?_⟩⟩
  rw [List.take_of_length_le (by simp [Wire.cells8, nums])]
  simp [Wire.cells8, ins]
/-- What is known between two calls: the writer, the chunk's box, the tables. -/
structure Wg (w w1 : World) (K : Nat) (s p lc lp pb : Int) (bs : List Int) (v : Value) : Prop where
  chg : Chg (fun _ => False) w w1
  wr : Wire.Wr w.heap.size w1 (w.heap.size + 1) v bs
  box : w1.heap[w.heap.size]? = some (.cells #[.int .i64 (K : Int), .int .i64 s, .int .i64 p, .int .i64 lc, .int .i64 lp, .int .i64 pb] 25 (0, 0))
  tab : Tab w1
  low : 1 < w.heap.size ∧ 0 < w.heap.size
theorem Wg.cells {w w1 : World} {K : Nat} {s p lc lp pb : Int} {bs : List Int} {v : Value} (h : Wg w w1 K s p lc lp pb bs v) : w1.cell? ⟨w.heap.size, 0, none⟩ = some (.int .i64 (K : Int)) ∧ w1.cell? ⟨w.heap.size, 1, none⟩ = some (.int .i64 s) ∧ w1.cell? ⟨w.heap.size, 2, none⟩ = some (.int .i64 p) := by
  obtain ⟨k0, k1, k2, k3, k4, k5⟩ := cells6 h.box
  exact ⟨k0, k1, k2⟩
theorem Wg.call {w w1 w2 : World} {K : Nat} {s p lc lp pb : Int} {bs bs' : List Int} {v v' : Value} (h : Wg w w1 K s p lc lp pb bs v) (hw : Wire.Wr w.heap.size w2 (w.heap.size + 1) v' bs') (hc : Chg (Foot (w.heap.size + 1) v) w1 w2) : Wg w w2 K s p lc lp pb bs' v' := by
  have hf : Chg (fun _ => False) w w2 := wr_step h.chg h.wr hc
  refine ⟨hf, hw, wr_box h.wr h.box (by omega) hc, ?_, h.low⟩
  obtain ⟨⟨y0, r0, h0⟩, ⟨y1, r1, h1⟩⟩ := h.tab
  have key : ∀ {g : Nat} {cs : Array Value} {ty : TypeId} {fr : Nat × Nat}, g < w.heap.size → w1.heap[g]? = some (.cells cs ty fr) → w2.heap[g]? = some (.cells cs ty fr) := fun hg hh => blk_keep hh hc (fun hk => by
    have := (h.wr.foot _ hk).1
    omega)
  exact ⟨⟨y0, r0, key (by have := h.low.1; omega) h0⟩, ⟨y1, r1, key (by have := h.low.2; omega) h1⟩⟩
theorem Tab.low {w : World} (h : Tab w) : 1 < w.heap.size ∧ 0 < w.heap.size := by
  obtain ⟨⟨_, _, h0⟩, ⟨_, _, h1⟩⟩ := h
  exact ⟨lt_of_blk h0, lt_of_blk h1⟩
theorem Wg.alloc {w w1 : World} {K : Nat} {s p lc lp pb : Int} {bs : List Int} {v : Value} (h : Wg w w1 K s p lc lp pb bs v) (o : Obj) : Wg w (w1.alloc o) K s p lc lp pb bs v :=
  ⟨h.chg.alloc o, h.wr.alloc o, blk_keep h.box (chg_one w1 o) (fun f => f), tab_keep h.tab (chg_one w1 o), h.low⟩
theorem Wg.free {w w1 w2 : World} {K : Nat} {s p lc lp pb : Int} {bs : List Int} {v : Value} (h : Wg w w1 K s p lc lp pb bs v) (hc : Chg (fun _ => False) w1 w2) : Wg w w2 K s p lc lp pb bs v :=
  ⟨chg_then h.chg hc, h.wr.keep hc (fun f => f) (fun _ _ f => f), blk_keep h.box hc (fun f => f), tab_keep h.tab hc, h.low⟩
theorem Wg.new {w : World} {K : Nat} {s p lc lp pb : Int} (hT : Tab w) : Wg w ((w.alloc (.cells #[.int .i64 (K : Int), .int .i64 s, .int .i64 p, .int .i64 lc, .int .i64 lp, .int .i64 pb] 25)).alloc (.cells #[.int .i64 0, .slice none 0 0] 96)) K s p lc lp pb [] (.slice none 0 0) := by
  have hs : (w.alloc (.cells #[.int .i64 (K : Int), .int .i64 s, .int .i64 p, .int .i64 lc, .int .i64 lp, .int .i64 pb] 25)).heap.size = w.heap.size + 1 := by simp
  refine ⟨((Chg.refl _ w).alloc _).alloc _, ?_, blk_keep (heap_alloc_last w _) (chg_one _ _) (fun f => f), tab_keep (tab_keep hT (chg_one _ _)) (chg_one _ _), hT.low⟩
  have := Wire.newWr_at w.heap.size (w.alloc (.cells #[.int .i64 (K : Int), .int .i64 s, .int .i64 p, .int .i64 lc, .int .i64 lp, .int .i64 pb] 25)) (by omega)
  rw [hs] at this
  exact this
set_option maxHeartbeats 4000000 in
theorem written_q (K : Nat) (s p lc lp pb pr : Int) (hK : K ≤ 6) (hs : K = 0 ∨ 1 ≤ s ∧ s ≤ 2097152) (hp : K < 3 ∨ 1 ≤ p ∧ p ≤ 65536) (hr : 0 ≤ pr ∧ pr ≤ 255) (bs : List Nat) (HN : Hid (nums bs = writtenA K s p pr)) (hl : bs.length ≤ 1000) (w : World) (hT : Tab w) : Calls Tryd.prog 27 #[.agg #[.int .i64 (K : Int), .int .i64 s, .int .i64 p, .int .i64 lc, .int .i64 lp, .int .i64 pb], .int .i64 pr] w fun e w' => ∃ ov, e = .returned ov ∧ ByO w' w.heap.size ov bs ∧ Chg (fun _ => False) w w' := by
  have HG : Hid (Wg w ((w.alloc (.cells #[.int .i64 (K : Int), .int .i64 s, .int .i64 p, .int .i64 lc, .int .i64 lp, .int .i64 pb] 25)).alloc (.cells #[.int .i64 0, .slice none 0 0] 96)) K s p lc lp pb [] (.slice none 0 0)) := Wg.new hT
  have HF1 : Hid (∀ ww, Calls Tryd.prog 37 #[.agg #[.int .i64 (K : Int), .int .i64 s, .int .i64 p, .int .i64 lc, .int .i64 lp, .int .i64 pb]] ww fun e w' => e = .returned (.int .u8 ((firstA K s : Nat) : Int)) ∧ Chg (fun _ => False) ww w') := first_q K s p lc lp pb hK (by omega)
  obtain ⟨F, hF⟩ : ∃ F, formN K = F := ⟨_, rfl⟩
  have hF0 : F = 0 ∨ 1 ≤ s := by rcases hs with h | h; left; rw [← hF, h]; rfl; right; exact h.1
  have hF0' : F = 0 ∨ s ≤ 2097152 := by rcases hs with h | h; left; rw [← hF, h]; rfl; right; exact h.2
  have hF1 : F < 2 ∨ 1 ≤ p := by rcases hp with h | h; left; rw [← hF]; unfold formN; (repeat' split) <;> omega; right; exact h.1
  have hF1' : F < 2 ∨ p ≤ 65536 := by rcases hp with h | h; left; rw [← hF]; unfold formN; (repeat' split) <;> omega; right; exact h.2
  have hF3 : F ≤ 3 := by rw [← hF]; unfold formN; (repeat' split) <;> omega
  have HFF : Hid (formN K = F) := hF
  have HL : Hid (bs.length ≤ 1000) := hl
  have hr0 := hr.1
  have hr1 := hr.2
  have HN2 : Hid (nums bs = (((firstA K s : Nat) : Int) :: (if 1 ≤ F then [(s - 1) / 256 % 256, (s - 1) % 256] else [])) ++ (if 2 ≤ F then [(p - 1) / 256 % 256, (p - 1) % 256] else []) ++ (if F = 3 then [pr] else [])) := by show _ = _; rw [HN.out]; unfold writtenA; rw [hF]
  have HKK : Hid (K ≤ 6) := hK
  generalize firstA K s = f1 at *
  clear hF hs hp hT hl hr HN
  go_enter Tryd.func27, Tryd.ntmps27
  go_wp2_with fail
  refine Calls.mono (Wire.newWriter_any _) ?_
  rintro z w1 ⟨rfl, hw1⟩
  rw [← hw1] at HG
  rw [World.size_alloc]
  clear hw1
  obtain ⟨k0, k1, k2, k3, k4, k5⟩ := cells6 HG.out.box
  go_wp2_with fail
  refine Calls.mono (HF1.out _) ?_
  rintro z w2 ⟨rfl, c2⟩
  have HG2 : Hid _ := HG.out.free c2
  clear HG c2 HF1 k0 k1 k2 k3 k4 k5
  go_wp2_with fail
  refine Calls.mono (Wire.put_m w.heap.size (w.heap.size + 1) (.slice none 0 0) [] [(f1 : Int)] _ 1 1 _ (HG2.out.alloc _).wr (by have := HG2.out.chg.size; simp; omega) (Wire.row8_one _ _ _) (by simp)) ?_
  rintro z w3 ⟨rfl, v3, hw3, hc3, hm3⟩
  have HG3 : Hid _ := (HG2.out.alloc _).call hw3 hc3
  clear HG2 hw3 hc3 hm3
  obtain ⟨k0, k1, k2⟩ := HG3.out.cells
  have HQ := tab_form HG3.out.tab HKK.out
  rw [HFF.out] at HQ
  have hq := HQ.out
  clear HQ
  by_cases e0 : F = 0
  · subst e0
    replace hq : w3.cell? ⟨1, K, none⟩ = some (.int .i64 0) := hq
    clear hF0 hF0' hF1 hF1' hF3
    go_wp2_with fail
    refine Calls.mono (Wire.bytes_any w.heap.size (w.heap.size + 1) v3 _ _ HG3.out.wr (by simp)) ?_
    rintro z w4 ⟨rfl, hb4, c4⟩
    simp at HN2
    have HE : Hid (ByO w4 w.heap.size (.slice (some ⟨w3.heap.size, 0, none⟩) bs.length bs.length) bs) := byO_blk (by rw [HN2.out]; simpa using hb4) HG3.out.chg.size HL.out
    have hlen : bs.length = 1 := by have := congrArg List.length HN2.out; simpa [nums] using this
    have HC : Hid (Chg (fun _ => False) w w4) := chg_then HG3.out.chg c4
    rw [hlen] at HE
    clear hb4 c4 HG3
    go_wp2
    go_ret
    exact ⟨_, rfl, HE.out, HC.out⟩
  by_cases e1 : F = 1
  · subst e1
    replace hq : w3.cell? ⟨1, K, none⟩ = some (.int .i64 1) := hq
    have s1 : 1 ≤ s := by omega
    have s2 : s ≤ 2097152 := by omega
    clear hF0 hF0' hF1 hF1' hF3
    go_wp2_with fail
    refine Calls.mono (Wire.high_yes w.heap.size (w.heap.size + 1) v3 _ (s - 1) 2 _ HG3.out.wr (by have := HG3.out.chg.size; omega) (by decide) (by decide) (by simp)) ?_
    rintro z w4 ⟨rfl, v4, hw4, hc4, hm4⟩
    have HG4 : Hid _ := HG3.out.call hw4 hc4
    rw [high2] at HG4
    clear HG3 hw4 hc4 hm4 k0 k1 k2 hq
    obtain ⟨k0, k1, k2⟩ := HG4.out.cells
    go_wp2_with fail
    refine Calls.mono (Wire.bytes_any w.heap.size (w.heap.size + 1) v4 _ _ HG4.out.wr (by simp)) ?_
    rintro z w5 ⟨rfl, hb5, c5⟩
    simp at HN2
    have HE : Hid (ByO w5 w.heap.size (.slice (some ⟨w4.heap.size, 0, none⟩) bs.length bs.length) bs) := byO_blk (by rw [HN2.out]; simpa using hb5) HG4.out.chg.size HL.out
    have hlen : bs.length = 3 := by have := congrArg List.length HN2.out; simpa [nums] using this
    have HC : Hid (Chg (fun _ => False) w w5) := chg_then HG4.out.chg c5
    rw [hlen] at HE
    clear hb5 c5 HG4
    go_wp2
    go_ret
    exact ⟨_, rfl, HE.out, HC.out⟩
  by_cases e2 : F = 2
  · subst e2
    replace hq : w3.cell? ⟨1, K, none⟩ = some (.int .i64 2) := hq
    have s1 : 1 ≤ s := by omega
    have s2 : s ≤ 2097152 := by omega
    have p1 : 1 ≤ p := by omega
    have p2 : p ≤ 65536 := by omega
    clear hF0 hF0' hF1 hF1' hF3
    go_wp2_with fail
    refine Calls.mono (Wire.high_yes w.heap.size (w.heap.size + 1) v3 _ (s - 1) 2 _ HG3.out.wr (by have := HG3.out.chg.size; omega) (by decide) (by decide) (by simp)) ?_
    rintro z w4 ⟨rfl, v4, hw4, hc4, hm4⟩
    have HG4 : Hid _ := HG3.out.call hw4 hc4
    rw [high2] at HG4
    clear HG3 hw4 hc4 hm4 k0 k1 k2 hq
    obtain ⟨k0, k1, k2⟩ := HG4.out.cells
    go_wp2_with fail
    refine Calls.mono (Wire.high_yes w.heap.size (w.heap.size + 1) v4 _ (p - 1) 2 _ HG4.out.wr (by have := HG4.out.chg.size; omega) (by decide) (by decide) (by simp)) ?_
    rintro z w5 ⟨rfl, v5, hw5, hc5, hm5⟩
    have HG5 : Hid _ := HG4.out.call hw5 hc5
    rw [high2] at HG5
    clear HG4 hw5 hc5 hm5 k0 k1 k2
    obtain ⟨k0, k1, k2⟩ := HG5.out.cells
    go_wp2_with fail
    refine Calls.mono (Wire.bytes_any w.heap.size (w.heap.size + 1) v5 _ _ HG5.out.wr (by simp)) ?_
    rintro z w6 ⟨rfl, hb6, c6⟩
    simp at HN2
    have HE : Hid (ByO w6 w.heap.size (.slice (some ⟨w5.heap.size, 0, none⟩) bs.length bs.length) bs) := byO_blk (by rw [HN2.out]; simpa using hb6) HG5.out.chg.size HL.out
    have hlen : bs.length = 5 := by have := congrArg List.length HN2.out; simpa [nums] using this
    have HC : Hid (Chg (fun _ => False) w w6) := chg_then HG5.out.chg c6
    rw [hlen] at HE
    clear hb6 c6 HG5
    go_wp2
    go_ret
    exact ⟨_, rfl, HE.out, HC.out⟩
  obtain e3 : F = 3 := by omega
  subst e3
  replace hq : w3.cell? ⟨1, K, none⟩ = some (.int .i64 3) := hq
  have s1 : 1 ≤ s := by omega
  have s2 : s ≤ 2097152 := by omega
  have p1 : 1 ≤ p := by omega
  have p2 : p ≤ 65536 := by omega
  clear hF0 hF0' hF1 hF1' hF3
  go_wp2_with fail
  refine Calls.mono (Wire.high_yes w.heap.size (w.heap.size + 1) v3 _ (s - 1) 2 _ HG3.out.wr (by have := HG3.out.chg.size; omega) (by decide) (by decide) (by simp)) ?_
  rintro z w4 ⟨rfl, v4, hw4, hc4, hm4⟩
  have HG4 : Hid _ := HG3.out.call hw4 hc4
  rw [high2] at HG4
  clear HG3 hw4 hc4 hm4 k0 k1 k2 hq
  obtain ⟨k0, k1, k2⟩ := HG4.out.cells
  go_wp2_with fail
  refine Calls.mono (Wire.high_yes w.heap.size (w.heap.size + 1) v4 _ (p - 1) 2 _ HG4.out.wr (by have := HG4.out.chg.size; omega) (by decide) (by decide) (by simp)) ?_
  rintro z w5 ⟨rfl, v5, hw5, hc5, hm5⟩
  have HG5 : Hid _ := HG4.out.call hw5 hc5
  rw [high2] at HG5
  clear HG4 hw5 hc5 hm5 k0 k1 k2
  obtain ⟨k0, k1, k2⟩ := HG5.out.cells
  go_wp2_with fail
  refine Calls.mono (Wire.put_m w.heap.size (w.heap.size + 1) v5 _ [pr] _ 1 1 _ (HG5.out.alloc _).wr (by have := HG5.out.chg.size; simp; omega) (Wire.row8_one _ _ _) (by simp)) ?_
  rintro z w6 ⟨rfl, v6, hw6, hc6, hm6⟩
  have HG6 : Hid _ := (HG5.out.alloc _).call hw6 hc6
  clear HG5 hw6 hc6 hm6 k0 k1 k2
  go_wp2_with fail
  refine Calls.mono (Wire.bytes_any w.heap.size (w.heap.size + 1) v6 _ _ HG6.out.wr (by simp)) ?_
  rintro z w7 ⟨rfl, hb7, c7⟩
  simp at HN2
  have HE : Hid (ByO w7 w.heap.size (.slice (some ⟨w6.heap.size, 0, none⟩) bs.length bs.length) bs) := byO_blk (by rw [HN2.out]; simpa using hb7) HG6.out.chg.size HL.out
  have hlen : bs.length = 6 := by have := congrArg List.length HN2.out; simpa [nums] using this
  have HC : Hid (Chg (fun _ => False) w w7) := chg_then HG6.out.chg c7
  rw [hlen] at HE
  clear hb7 c7 HG6
  go_wp2
  go_ret
  exact ⟨_, rfl, HE.out, HC.out⟩
end Go.Proofs.YtannepoclpmedaaDoor
