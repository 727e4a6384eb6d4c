/- StateGoes; of no statement by itself. -/
import Derived.Test.YtkochonjfjlhpabDoorSj
import Derived.Test.YtkochonjfjlhpabDoorRt
import Derived.Deep.DeepCutAuto
namespace Go.Proofs.YtkochonjfjlhpabDoor
open Go.RowKit
open St12
set_option linter.unusedVariables false
set_option linter.unusedSimpArgs false

theorem right_J {s : Stt} (h : right s) : s.I := by
  obtain ⟨⟨h1, h2⟩, ⟨a1, a2⟩, ⟨b1, b2⟩, ⟨c1, c2⟩, ⟨d1, d2⟩⟩ := h
  exact ⟨⟨by omega, by omega⟩, ⟨by omega, by omega⟩, ⟨by omega, by omega⟩, ⟨by omega, by omega⟩, ⟨by omega, by omega⟩⟩
theorem lit_seven {n : Int} (h : 0 ≤ n) : lit n = decide (n < 7) := by
  unfold lit
  rw [decide_eq_true h, Bool.true_and]
  exact decide_eq_decide.2 ⟨fun h => by omega, fun h => by omega⟩
theorem rnew_any (w : World) : Calls Tryd.prog 5 #[] w fun e w' => e = .returned (.agg #[.int .i64 0, .int .i64 1, .int .i64 1, .int .i64 1, .int .i64 1]) ∧ Chg (fun _ => False) w w' := by
  have cB := chg_one w (.cells #[.int .i64 0, .int .i64 1, .int .i64 1, .int .i64 1, .int .i64 1] 27)
  obtain ⟨k0, k1, k2, k3, k4⟩ := cells5 (heap_alloc_last w (.cells #[.int .i64 0, .int .i64 1, .int .i64 1, .int .i64 1, .int .i64 1] 27))
  go_enter Tryd.func5, Tryd.ntmps5
  go_wp2
  refine bodyPost_ret (v := .agg #[.int .i64 0, .int .i64 1, .int .i64 1, .int .i64 1, .int .i64 1]) (by simp [results, Tryd.results5, go_sem, k0, k1, k2, k3, k4]) rfl ?_
  exact ⟨rfl, cB⟩
/-- The two states in memory. -/
structure Gg (w wr : World) (bs br : Nat) (s : Stt) : Prop where
  chg : Chg (fun _ => False) w wr
  box : wr.heap[bs]? = some (.cells #[.int .i64 s.n, .int .i64 s.a, .int .i64 s.b, .int .i64 s.c, .int .i64 s.d] 25 (0, 0))
  rbx : wr.heap[br]? = some (.cells #[.int .i64 s.n, .int .i64 s.a, .int .i64 s.b, .int .i64 s.c, .int .i64 s.d] 27 (0, 0))
  b0 : w.heap.size ≤ bs
  r0 : w.heap.size ≤ br
theorem Gg.new {w wr wr' : World} {bs br : Nat} {s : Stt} (h : Gg w wr bs br s) (hc : Chg (fun _ => False) wr wr') : Gg w wr' bs br s := ⟨chg_then h.chg hc, blk_keep h.box hc (fun f => f), blk_keep h.rbx hc (fun f => f), h.b0, h.r0⟩
theorem Gg.ne {w wr : World} {bs br : Nat} {s : Stt} (h : Gg w wr bs br s) : bs ≠ br := fun e => by
  have hb := h.rbx
  rw [← e] at hb
  exact ty_ne h.box hb (by decide)
set_option maxHeartbeats 8000000 in
set_option maxRecDepth 100000 in
theorem goes_any {Tab : World → Prop} (S : StSpec Tab) (ad : Option Addr) (L c : Nat) (l : List Sym) (hl : l.length = L) (hL : L ≤ 140737488355328) (w : World) (hT : Tab w) (hrow : SymL w ad l) : Calls Tryd.prog 3 #[.slice ad L c] w fun e w' => e = .returned (.bool true) ∧ Chg (fun _ => False) w w' := by
  have HT : Hid (Tab w) := hT
  have HR : Hid (SymL w ad l) := hrow
  have HLL : Hid (l.length = L) := hl
  have hLi : (L : Int) ≤ 140737488355328 := by omega
  have HN : Hid (Calls Tryd.prog 4 #[] w fun e w' => e = .returned (.agg #[.int .i64 0, .int .i64 1, .int .i64 1, .int .i64 1, .int .i64 1]) ∧ Chg (fun _ => False) w w') := S.new w hT
  clear hT hrow hl
  go_enter Tryd.func3, Tryd.ntmps3
  go_wp2_with fail
  refine Calls.mono HN.out ?_
  rintro z w1 ⟨rfl, c1⟩
  have HC1 : Hid _ := c1.alloc (.cells #[.int .i64 0, .int .i64 1, .int .i64 1, .int .i64 1, .int .i64 1] 25)
  have HB1 : Hid _ := heap_alloc_last w1 (.cells #[.int .i64 0, .int .i64 1, .int .i64 1, .int .i64 1, .int .i64 1] 25)
  have HS1 : Hid (w.heap.size ≤ w1.heap.size) := c1.size
  clear c1 HN
  go_wp2_with fail
  generalize w1.alloc (.cells #[.int .i64 0, .int .i64 1, .int .i64 1, .int .i64 1, .int .i64 1] 25) = W1 at *
  refine Calls.mono (rnew_any _) ?_
  rintro z w2 ⟨rfl, c2⟩
  have HG : Hid (Gg w (w2.alloc (.cells #[.int .i64 0, .int .i64 1, .int .i64 1, .int .i64 1, .int .i64 1] 27)) w1.heap.size w2.heap.size st0) := ⟨(chg_then HC1.out c2).alloc _, blk_keep (blk_keep HB1.out c2 (fun f => f)) (chg_one _ _) (fun f => f), heap_alloc_last _ _, HS1.out, (chg_then HC1.out c2).size⟩
  clear c2 HC1 HB1 HS1
  go_wp2_with fail
  generalize w2.alloc (.cells #[.int .i64 0, .int .i64 1, .int .i64 1, .int .i64 1, .int .i64 1] 27) = W2 at *
  generalize w1.heap.size = bs at *
  generalize w2.heap.size = br at *
  go_loopw [5] (fun v5 wr => ∃ (i : Nat) (s : Stt), i ≤ L ∧ v5 = .int .i64 (i : Int) ∧ Hid (right s) ∧ Hid (Gg w wr bs br s)) (fun v5 _ => L - (intOf v5).toNat)
  case atStart => exact ⟨0, st0, Nat.zero_le _, rfl, (by show right st0; decide), HG.out⟩
  case round =>
    clear HG
    obtain ⟨i, s, hi, rfl, HRI, HG⟩ := hrel
    have hii : (i : Int) ≤ 140737488355328 := by omega
    by_cases hin : i < L
    · have hd1 : decide ((i : Int) < (L : Int)) = true := by simp; omega
      have hd1' : decide (i < L) = true := decide_eq_true hin
      obtain ⟨y, hy⟩ : ∃ y, l[i]? = some y := ⟨l[i]'(by rw [HLL.out]; exact hin), List.getElem?_eq_getElem _⟩
      have HSY : Hid (SymL wr ad l) := HR.out.new HG.out.chg
      obtain ⟨hyI, b, off, rfl, h0, h1, h2, h3⟩ := HSY.out i y hy
      obtain ⟨k, yb, yl, yd⟩ := y
      simp only at h0 h1 h2 h3
      have HYI : Hid _ := hyI
      clear hy hyI HSY
      obtain ⟨B, hB⟩ : ∃ B, decide (s.n < 7) = B := ⟨_, rfl⟩
      have HLT : Hid (∀ w', Tab w' → Calls Tryd.prog 6 #[.agg #[.int .i64 s.n, .int .i64 s.a, .int .i64 s.b, .int .i64 s.c, .int .i64 s.d]] w' fun e w'' => e = .returned (.bool B) ∧ Chg (fun _ => False) w' w'') := fun w' h => by
        have := S.lit s w' h (right_J HRI.out)
        rw [lit_seven HRI.out.1.1, hB] at this
        exact this
      have HTA : Hid (∀ w', Chg (fun _ => False) wr w' → Tab w') := fun w' h => S.keep HT.out (chg_then HG.out.chg h)
      have HBX : Hid _ := HG.out.box
      have HRX : Hid _ := HG.out.rbx
      go_upto_region 6 with fail
      generalize wr = W at *
      refine wp_region_phase (mk := fun u => #[_, _, _, _, _, _, _, _, _, _, _, _, _, _, _, _, _, _, u 18, u 19, u 20, u 21, u 22, u 23, u 24, u 25, u 26, u 27, u 28, u 29, u 30, u 31, u 32, u 33, u 34, u 35, u 36, _, _, _, _, _, _, _, _, _, _, _, _, _, _, _, _, _, _, _, _, _, _, _, _, _, _, _, _, _, _, _, _, _, _, _, _, _, _, _, _, _, _, _, _, _, _, _, _, _, _, _, _, _, _, _]) (G := lookG [(18, .pointer (some ⟨bs, 0, none⟩)), (19, .int .i64 s.n), (20, .pointer (some ⟨br, 0, none⟩)), (21, .int .i64 s.n), (22, .bool false), (23, .bool false), (24, .pointer (some ⟨bs, 1, none⟩)), (25, .agg #[.int .i64 s.a, .int .i64 s.b, .int .i64 s.c, .int .i64 s.d]), (26, .pointer (some ⟨br, 1, none⟩)), (27, .agg #[.int .i64 s.a, .int .i64 s.b, .int .i64 s.c, .int .i64 s.d]), (28, .bool false), (29, .bool false), (30, .bool false), (31, .agg #[.int .i64 s.n, .int .i64 s.a, .int .i64 s.b, .int .i64 s.c, .int .i64 s.d]), (32, .bool B), (33, .pointer (some ⟨br, 0, none⟩)), (34, .int .i64 s.n), (35, .bool B), (36, .bool false)]) (J := fun _ _ ww => Chg (fun _ => False) W ww) [14] (fun q => match q with | 18 => u18 | 19 => u19 | 20 => u20 | 21 => u21 | 22 => u22 | 23 => u23 | 24 => u24 | 25 => u25 | 26 => u26 | 27 => u27 | 28 => u28 | 29 => u29 | 30 => u30 | 31 => u31 | 32 => u32 | 33 => u33 | 34 => u34 | 35 => u35 | 36 => u36 | _ => undef) rfl (by kernel_rfl) 19 _ rfl rfl (by kernel_rfl) (by kernel_rfl) (by kernel_rfl) (by decide) ?_ ?_ ?_ ?_ ?_
      · repeat (refine ⟨⟨_, rfl, fun _ _ => rfl⟩, ?_⟩)
        exact trivial
      · exact fun q u u2 ww _ h => h
      · exact (Chg.refl _ W).drew
      · refine ⟨?_, ?_, ?_, ?_, ?_, ?_, ?_, ?_, ?_, ?_, ?_, ?_, ?_, ?_, ?_, ?_, ?_, ?_, ?_, trivial⟩
        · show StepR _ _ _ _ _ _  _ -- 18
          unfold StepR
          intro q u w_ hj hd K hK
          clear hd
          clear hj
          go_simp
          exact hK.out _ rfl
        · show StepR _ _ _ _ _ _  _ -- 19
          unfold StepR
          intro q u w_ hj hd K hK
          have h18 : u 18 = .pointer (some ⟨bs, 0, none⟩) := hd.get 0 (by kernel_rfl)
          clear hd
          simp only [h18] at hK
          obtain ⟨q0, q1, q2, q3, q4⟩ := cells5 (blk_keep HBX.out hj (fun f => f))
          clear hj
          go_simp
          exact hK.out _ rfl
        · show StepR _ _ _ _ _ _  _ -- 20
          unfold StepR
          intro q u w_ hj hd K hK
          clear hd
          clear hj
          go_simp
          exact hK.out _ rfl
        · show StepR _ _ _ _ _ _  _ -- 21
          unfold StepR
          intro q u w_ hj hd K hK
          have h20 : u 20 = .pointer (some ⟨br, 0, none⟩) := hd.get 2 (by kernel_rfl)
          clear hd
          simp only [h20] at hK
          obtain ⟨q0, q1, q2, q3, q4⟩ := cells5 (blk_keep HRX.out hj (fun f => f))
          clear hj
          go_simp
          exact hK.out _ rfl
        · show StepR _ _ _ _ _ _  _ -- 22
          unfold StepR
          intro q u w_ hj hd K hK
          have h19 : u 19 = .int .i64 s.n := hd.get 1 (by kernel_rfl)
          have h21 : u 21 = .int .i64 s.n := hd.get 3 (by kernel_rfl)
          clear hd
          simp only [h19, h21] at hK
          clear hj
          have hq : (s.n != s.n) = false := by simp
          go_simp
          exact hK.out _ rfl
        · show StepR _ _ _ _ _ _  _ -- 23
          unfold StepR
          intro q u w_ hj hd K hK
          have h22 : u 22 = .bool false := hd.get 4 (by kernel_rfl)
          clear hd
          simp only [h22] at hK
          clear hj
          go_simp
          exact hK.out _ rfl
        · show StepR _ _ _ _ _ _  _ -- 24
          unfold StepR
          intro q u w_ hj hd K hK
          have h23 : u 23 = .bool false := hd.get 5 (by kernel_rfl)
          clear hd
          simp only [h23] at hK
          clear hj
          go_simp
          exact hK.out _ rfl
        · show StepR _ _ _ _ _ _  _ -- 25
          unfold StepR
          intro q u w_ hj hd K hK
          have h24 : u 24 = .pointer (some ⟨bs, 1, none⟩) := hd.get 6 (by kernel_rfl)
          have h23 : u 23 = .bool false := hd.get 5 (by kernel_rfl)
          clear hd
          simp only [h24, h23] at hK
          obtain ⟨q0, q1, q2, q3, q4⟩ := cells5 (blk_keep HBX.out hj (fun f => f))
          clear hj
          go_simp
          exact hK.out _ rfl
        · show StepR _ _ _ _ _ _  _ -- 26
          unfold StepR
          intro q u w_ hj hd K hK
          have h23 : u 23 = .bool false := hd.get 5 (by kernel_rfl)
          clear hd
          simp only [h23] at hK
          clear hj
          go_simp
          exact hK.out _ rfl
        · show StepR _ _ _ _ _ _  _ -- 27
          unfold StepR
          intro q u w_ hj hd K hK
          have h26 : u 26 = .pointer (some ⟨br, 1, none⟩) := hd.get 8 (by kernel_rfl)
          have h23 : u 23 = .bool false := hd.get 5 (by kernel_rfl)
          clear hd
          simp only [h26, h23] at hK
          obtain ⟨q0, q1, q2, q3, q4⟩ := cells5 (blk_keep HRX.out hj (fun f => f))
          clear hj
          go_simp
          exact hK.out _ rfl
        · show StepR _ _ _ _ _ _  _ -- 28
          unfold StepR
          intro q u w_ hj hd K hK
          have h25 : u 25 = .agg #[.int .i64 s.a, .int .i64 s.b, .int .i64 s.c, .int .i64 s.d] := hd.get 7 (by kernel_rfl)
          have h27 : u 27 = .agg #[.int .i64 s.a, .int .i64 s.b, .int .i64 s.c, .int .i64 s.d] := hd.get 9 (by kernel_rfl)
          have h23 : u 23 = .bool false := hd.get 5 (by kernel_rfl)
          clear hd
          simp only [h25, h27, h23] at hK
          clear hj
          have hq := fun ww => nsame4 ww s.a s.b s.c s.d
          go_simp
          exact hK.out _ rfl
        · show StepR _ _ _ _ _ _  _ -- 29
          unfold StepR
          intro q u w_ hj hd K hK
          have h23 : u 23 = .bool false := hd.get 5 (by kernel_rfl)
          have h28 : u 28 = .bool false := hd.get 10 (by kernel_rfl)
          clear hd
          simp only [h23, h28] at hK
          clear hj
          go_simp
          exact hK.out _ rfl
        · show StepR _ _ _ _ _ _  _ -- 30
          unfold StepR
          intro q u w_ hj hd K hK
          have h29 : u 29 = .bool false := hd.get 11 (by kernel_rfl)
          clear hd
          simp only [h29] at hK
          clear hj
          go_simp
          exact hK.out _ rfl
        · show StepR _ _ _ _ _ _  _ -- 31
          unfold StepR
          intro q u w_ hj hd K hK
          have h30 : u 30 = .bool false := hd.get 12 (by kernel_rfl)
          clear hd
          simp only [h30] at hK
          obtain ⟨q0, q1, q2, q3, q4⟩ := cells5 (blk_keep HBX.out hj (fun f => f))
          clear hj
          go_simp
          exact hK.out _ rfl
        · show StepW _ _ _ _ _ _ 0 _ -- 32
          unfold StepW
          intro u w_ hj hd K hK
          have h31 : u 31 = .agg #[.int .i64 s.n, .int .i64 s.a, .int .i64 s.b, .int .i64 s.c, .int .i64 s.d] := hd.get 13 (by kernel_rfl)
          have h30 : u 30 = .bool false := hd.get 12 (by kernel_rfl)
          clear hd
          simp only [h31, h30] at hK
          have hc : Chg (fun _ => False) W w_ := hj
          go_simp
          go_at_call 6
          refine (HLT.out w_ (HTA.out w_ hc)).mono ?_
          rintro z w2 ⟨rfl, c2⟩
          exact hK.out _ w2 (chg_then hc c2) rfl
        · show StepR _ _ _ _ _ _  _ -- 33
          unfold StepR
          intro q u w_ hj hd K hK
          have h30 : u 30 = .bool false := hd.get 12 (by kernel_rfl)
          clear hd
          simp only [h30] at hK
          clear hj
          go_simp
          exact hK.out _ rfl
        · show StepR _ _ _ _ _ _  _ -- 34
          unfold StepR
          intro q u w_ hj hd K hK
          have h33 : u 33 = .pointer (some ⟨br, 0, none⟩) := hd.get 15 (by kernel_rfl)
          have h30 : u 30 = .bool false := hd.get 12 (by kernel_rfl)
          clear hd
          simp only [h33, h30] at hK
          obtain ⟨q0, q1, q2, q3, q4⟩ := cells5 (blk_keep HRX.out hj (fun f => f))
          clear hj
          go_simp
          exact hK.out _ rfl
        · show StepR _ _ _ _ _ _  _ -- 35
          unfold StepR
          intro q u w_ hj hd K hK
          have h34 : u 34 = .int .i64 s.n := hd.get 16 (by kernel_rfl)
          have h30 : u 30 = .bool false := hd.get 12 (by kernel_rfl)
          clear hd
          simp only [h34, h30] at hK
          clear hj
          go_simp
          exact hK.out _ rfl
        · show StepR _ _ _ _ _ _  _ -- 36
          unfold StepR
          intro q u w_ hj hd K hK
          have h32 : u 32 = .bool B := hd.get 14 (by kernel_rfl)
          have h35 : u 35 = .bool B := hd.get 17 (by kernel_rfl)
          have h30 : u 30 = .bool false := hd.get 12 (by kernel_rfl)
          clear hd
          simp only [h32, h35, h30] at hK
          clear hj
          have hq : (B != B) = false := by simp
          go_simp
          exact hK.out _ rfl
      · intro u w6 hj hA K hK
        have hc6 : Chg (fun _ => False) W w6 := hj
        have e30 : u 30 = .bool false := hA.at 30 (by kernel_rfl)
        have e36 : u 36 = .bool false := hA.at 36 (by kernel_rfl)
        have HG6 : Hid (Gg w w6 bs br s) := HG.out.new hc6
        replace h0 := cell_chg h0 hc6
        replace h1 := cell_chg h1 hc6
        replace h2 := cell_chg h2 hc6
        replace h3 := cell_chg h3 hc6
        clear hA hc6 hj HLT HTA HBX HRX HG hB
        go_simp
        refine hK.out _ _ ?_
        clear hK e30 e36 K
        try clear W
        obtain ⟨t, ht⟩ : ∃ t, (nxt s ⟨k, yb, yl, yd⟩).1 = t := ⟨_, rfl⟩
        obtain ⟨E, hE⟩ : ∃ E, (nxt s ⟨k, yb, yl, yd⟩).2 = E := ⟨_, rfl⟩
        have HNX : Hid (nxt s ⟨k, yb, yl, yd⟩ = (t, E)) := by show _ = _; rw [← ht, ← hE]
        have HX : Hid (∀ w', Tab w' → Calls Tryd.prog 7 #[.agg #[.int .i64 s.n, .int .i64 s.a, .int .i64 s.b, .int .i64 s.c, .int .i64 s.d], .agg #[.int .i64 k, .int .u8 yb, .int .i64 yl, .int .i64 yd]] w' fun e w'' => e = .returned (.tuple #[.agg #[.int .i64 t.n, .int .i64 t.a, .int .i64 t.b, .int .i64 t.c, .int .i64 t.d], .int .i64 E]) ∧ Chg (fun _ => False) w' w'') := fun w' h => by
          have := S.next s ⟨k, yb, yl, yd⟩ w' h (right_J HRI.out) HYI.out
          rw [ht, hE] at this
          exact this
        have HXR : Hid (∀ w', Tab w' → Calls Tryd.prog 8 #[.agg #[.int .i64 s.n, .int .i64 s.a, .int .i64 s.b, .int .i64 s.c, .int .i64 s.d], .agg #[.int .i64 k, .int .u8 yb, .int .i64 yl, .int .i64 yd]] w' fun e w'' => e = .returned (.tuple #[.agg #[.int .i64 t.n, .int .i64 t.a, .int .i64 t.b, .int .i64 t.c, .int .i64 t.d], .int .i64 E]) ∧ Chg (fun _ => False) w' w'') := fun w' _ => by
          have := rnext_any s.n s.a s.b s.c s.d k yb yl yd (right_J HRI.out) HYI.out w'
          rw [ht, hE] at this
          exact this
        clear ht hE
        have HTA : Hid (∀ w', Chg (fun _ => False) w6 w' → Tab w') := fun w' h => S.keep HT.out (chg_then HG6.out.chg h)
        have HBX : Hid _ := HG6.out.box
        go_upto_region 8 with fail
        generalize w6 = W at *
        refine wp_region_setM (mk := fun u => #[_, _, _, _, _, _, u 6, _, _, _, _, _, _, _, _, _, _, _, _, _, _, _, _, _, _, _, _, _, _, _, _, _, _, _, _, _, _, _, u 38, u 39, u 40, u 41, u 42, u 43, u 44, u 45, u 46, _, _, _, _, _, _, _, _, _, _, _, _, _, _, _, _, _, _, _, _, _, _, _, _, _, _, _, _, _, _, _, _, _, _, _, _, _, _, _, _, _, _, _, _, _]) (G := lookG [(39, .agg #[.int .i64 s.n, .int .i64 s.a, .int .i64 s.b, .int .i64 s.c, .int .i64 s.d]), (40, .slice (some ⟨b, off, none⟩) L c), (41, .int .i64 (i : Int)), (42, .pointer (some ⟨b, off + i * 4, none⟩)), (43, .agg #[.int .i64 k, .int .u8 yb, .int .i64 yl, .int .i64 yd]), (44, .tuple #[.agg #[.int .i64 t.n, .int .i64 t.a, .int .i64 t.b, .int .i64 t.c, .int .i64 t.d], .int .i64 E]), (38, .tuple #[.agg #[.int .i64 t.n, .int .i64 t.a, .int .i64 t.b, .int .i64 t.c, .int .i64 t.d], .int .i64 E]), (45, .agg #[.int .i64 t.n, .int .i64 t.a, .int .i64 t.b, .int .i64 t.c, .int .i64 t.d]), (46, .int .i64 E)]) (J := fun L_ u ww => Chg (fun _ => False) W ww ∧ (L_ 9 = true → ∃ b7, u 6 = .pointer (some ⟨b7, 0, none⟩) ∧ W.heap.size ≤ b7 ∧ ww.heap[b7]? = some (.cells (if L_ 10 = true then #[.int .i64 t.n, .int .i64 t.a, .int .i64 t.b, .int .i64 t.c, .int .i64 t.d] else #[.int .i64 0, .int .i64 0, .int .i64 0, .int .i64 0, .int .i64 0]) 25 (0, 0))) ∧ (L_ 10 = true → L_ 9 = true)) [5, 9, 10] ([]) (fun q => match q with | 6 => u6 | 38 => u38 | 39 => u39 | 40 => u40 | 41 => u41 | 42 => u42 | 43 => u43 | 44 => u44 | 45 => u45 | 46 => u46 | _ => undef) rfl (by kernel_rfl) 11 _ rfl rfl (by kernel_rfl) (by kernel_rfl) ?_ ?_ ?_ ?_ ?_
        · repeat (refine ⟨fun _ _ => rfl, ?_⟩)
          exact trivial
        · intro L_ L2 u u2 ww h hj
          have e7 : u 6 = u2 6 := (h 9 (by decide)).2
          have l9 : L_ 9 = L2 9 := (h 9 (by decide)).1
          have l10 : L_ 10 = L2 10 := (h 10 (by decide)).1
          show _ ∧ _ ∧ _
          rw [← e7, ← l9, ← l10]
          exact hj
        · exact ⟨(Chg.refl _ W).drew, (fun h => nomatch h), (fun h => nomatch h)⟩
        · refine ⟨?_, ?_, ?_, ?_, ?_, ?_, ?_, ?_, ?_, ?_, ?_, trivial⟩
          · show StepRS _ _ _ _ _ _ _ _ -- 39
            unfold StepRS
            intro L_ u w_ hj hd K hK
            clear hd
            obtain ⟨q0, q1, q2, q3, q4⟩ := cells5 (blk_keep HBX.out hj.1 (fun f => f))
            clear hj
            go_simp
            exact hK.out _ rfl
          · show StepRS _ _ _ _ _ _ _ _ -- 40
            unfold StepRS
            intro L_ u w_ hj hd K hK
            clear hd
            clear hj
            go_simp
            exact hK.out _ rfl
          · show StepRS _ _ _ _ _ _ _ _ -- 41
            unfold StepRS
            intro L_ u w_ hj hd K hK
            clear hd
            clear hj
            go_simp
            exact hK.out _ rfl
          · show StepRS _ _ _ _ _ _ _ _ -- 42
            unfold StepRS
            intro L_ u w_ hj hd K hK
            have h40 : u 40 = .slice (some ⟨b, off, none⟩) L c := hd.get 1 (by kernel_rfl)
            have h41 : u 41 = .int .i64 (i : Int) := hd.get 2 (by kernel_rfl)
            clear hd
            simp only [h40, h41] at hK
            clear hj
            go_simp
            exact hK.out _ rfl
          · show StepRS _ _ _ _ _ _ _ _ -- 43
            unfold StepRS
            intro L_ u w_ hj hd K hK
            have h42 : u 42 = .pointer (some ⟨b, off + i * 4, none⟩) := hd.get 3 (by kernel_rfl)
            clear hd
            simp only [h42] at hK
            have q0 := cell_chg h0 hj.1
            have q1 := cell_chg h1 hj.1
            have q2 := cell_chg h2 hj.1
            have q3 := cell_chg h3 hj.1
            clear hj
            go_simp
            exact hK.out _ rfl
          · show StepWS _ _ _ _ _ _ _ _ _ -- 44
            unfold StepWS
            intro L_ u w_ hj hli hwt hd K hK
            have h39 : u 39 = .agg #[.int .i64 s.n, .int .i64 s.a, .int .i64 s.b, .int .i64 s.c, .int .i64 s.d] := hd.get 0 (by kernel_rfl)
            have h43 : u 43 = .agg #[.int .i64 k, .int .u8 yb, .int .i64 yl, .int .i64 yd] := hd.get 4 (by kernel_rfl)
            clear hd
            simp only [h39, h43] at hK
            obtain ⟨hc, h9, h10⟩ := hj
            go_simp
            go_at_call 7
            refine (HX.out w_ (HTA.out w_ hc)).mono ?_
            rintro z w2 ⟨rfl, c2⟩
            refine hK.out _ w2 ⟨chg_then hc c2, fun e => ?_, h10⟩ rfl
            obtain ⟨b7, e7, hb7, hk7⟩ := h9 e
            exact ⟨b7, e7, hb7, blk_keep hk7 c2 (fun f => f)⟩
          · show StepRS _ _ _ _ _ _ _ _ -- 38
            unfold StepRS
            intro L_ u w_ hj hd K hK
            have h44 : u 44 = .tuple #[.agg #[.int .i64 t.n, .int .i64 t.a, .int .i64 t.b, .int .i64 t.c, .int .i64 t.d], .int .i64 E] := hd.get 5 (by kernel_rfl)
            clear hd
            simp only [h44] at hK
            clear hj
            go_simp
            exact hK.out _ rfl
          · show StepRS _ _ _ _ _ _ _ _ -- 45
            unfold StepRS
            intro L_ u w_ hj hd K hK
            have h38 : u 38 = .tuple #[.agg #[.int .i64 t.n, .int .i64 t.a, .int .i64 t.b, .int .i64 t.c, .int .i64 t.d], .int .i64 E] := hd.get 6 (by kernel_rfl)
            clear hd
            simp only [h38] at hK
            clear hj
            go_simp
            exact hK.out _ rfl
          · show StepRS _ _ _ _ _ _ _ _ -- 46
            unfold StepRS
            intro L_ u w_ hj hd K hK
            have h38 : u 38 = .tuple #[.agg #[.int .i64 t.n, .int .i64 t.a, .int .i64 t.b, .int .i64 t.c, .int .i64 t.d], .int .i64 E] := hd.get 6 (by kernel_rfl)
            clear hd
            simp only [h38] at hK
            clear hj
            go_simp
            exact hK.out _ rfl
          · show StepWS _ _ _ _ _ _ _ _ _ -- 6
            unfold StepWS
            intro L_ u w_ hj hli hwt hd K hK
            clear hd
            obtain ⟨hc, h9, h10⟩ := hj
            have n9 : L_ 9 ≠ true := by rw [hli]; decide
            have n10 : ¬ L_ 10 = true := fun e => n9 (h10 e)
            go_simp
            refine hK.out _ _ ⟨hc.alloc _, fun _ => ⟨_, rfl, hc.size, ?_⟩, fun _ => rfl⟩ trivial
            show _ = some (Obj.cells (if L_ 10 = true then #[.int .i64 t.n, .int .i64 t.a, .int .i64 t.b, .int .i64 t.c, .int .i64 t.d] else #[.int .i64 0, .int .i64 0, .int .i64 0, .int .i64 0, .int .i64 0]) 25 (0, 0))
            rw [if_neg n10]
            exact heap_alloc_last _ _
          · show StepWS _ _ _ _ _ _ _ _ _ -- #10
            unfold StepWS
            intro L_ u w_ hj hli hwt hd K hK
            have h45 : u 45 = .agg #[.int .i64 t.n, .int .i64 t.a, .int .i64 t.b, .int .i64 t.c, .int .i64 t.d] := hd.get 7 (by kernel_rfl)
            clear hd
            simp only [h45] at hK
            obtain ⟨hc, h9, h10⟩ := hj
            have l9 : L_ 9 = true := hwt ⟨9, .data⟩ (by simp) rfl
            have n10 : ¬ L_ 10 = true := by rw [hli]; decide
            obtain ⟨b7, e7, hb7, hk7⟩ := h9 l9
            rw [if_neg n10] at hk7
            obtain ⟨⟨p0, f0⟩, ⟨p1, f1⟩, ⟨p2, f2⟩, ⟨p3, f3⟩, ⟨p4, f4⟩, hblk, hchg⟩ := put5_of hk7 (.int .i64 t.n) (.int .i64 t.a) (.int .i64 t.b) (.int .i64 t.c) (.int .i64 t.d)
            have HL9 : Hid (L_ 9 = true) := l9
            have HBK : Hid _ := hblk
            have HCH : Hid (Chg (fun _ => False) W _) := hc.trans hchg (fun z e => .inr (by omega))
            clear l9 n10 h9 h10 hblk hchg
            simp only [e7] at hK ⊢
            go_simp
            exact hK.out undef _ ⟨HCH.out, fun _ => ⟨b7, e7, hb7, HBK.out⟩, fun _ => HL9.out⟩ trivial
        · intro u w7 hj hA K hK
          obtain ⟨hc7, h7, _⟩ := hj
          obtain ⟨b7, e7, hb7, hk7⟩ := h7 rfl
          rw [if_pos rfl] at hk7
          have e46 : u 46 = .int .i64 E := hA.at 46 (by kernel_rfl)
          have HG7 : Hid (Gg w w7 bs br s) := HG6.out.new hc7
          have HB7 : Hid (w7.heap[b7]? = some (.cells #[.int .i64 t.n, .int .i64 t.a, .int .i64 t.b, .int .i64 t.c, .int .i64 t.d] 25 (0, 0))) := hk7
          have HN7 : Hid (bs ≠ b7) := by have := lt_of_blk HG6.out.box; show _ ≠ _; omega
          replace h0 := cell_chg h0 hc7
          replace h1 := cell_chg h1 hc7
          replace h2 := cell_chg h2 hc7
          replace h3 := cell_chg h3 hc7
          clear hA h7 hk7 hc7 HX HTA HBX HG6 hb7
          go_simp
          refine hK.out _ _ ?_
          clear hK e7 e46 K
          try clear W
          have HX : Hid _ := HXR.out
          clear HXR
          have HTA : Hid (∀ w', Chg (fun _ => False) w7 w' → Tab w') := fun w' h => S.keep HT.out (chg_then HG7.out.chg h)
          have HRX : Hid _ := HG7.out.rbx
          go_upto_region 9 with fail
          generalize w7 = W at *
          refine wp_region_setM (mk := fun u => #[_, _, _, _, _, _, _, _, u 8, _, _, _, _, _, _, _, _, _, _, _, _, _, _, _, _, _, _, _, _, _, _, _, _, _, _, _, _, _, _, _, _, _, _, _, _, _, _, u 47, u 48, u 49, u 50, u 51, u 52, u 53, u 54, u 55, _, _, _, _, _, _, _, _, _, _, _, _, _, _, _, _, _, _, _, _, _, _, _, _, _, _, _, _, _, _, _, _, _, _, _, _]) (G := lookG [(48, .agg #[.int .i64 s.n, .int .i64 s.a, .int .i64 s.b, .int .i64 s.c, .int .i64 s.d]), (49, .slice (some ⟨b, off, none⟩) L c), (50, .int .i64 (i : Int)), (51, .pointer (some ⟨b, off + i * 4, none⟩)), (52, .agg #[.int .i64 k, .int .u8 yb, .int .i64 yl, .int .i64 yd]), (53, .tuple #[.agg #[.int .i64 t.n, .int .i64 t.a, .int .i64 t.b, .int .i64 t.c, .int .i64 t.d], .int .i64 E]), (47, .tuple #[.agg #[.int .i64 t.n, .int .i64 t.a, .int .i64 t.b, .int .i64 t.c, .int .i64 t.d], .int .i64 E]), (54, .agg #[.int .i64 t.n, .int .i64 t.a, .int .i64 t.b, .int .i64 t.c, .int .i64 t.d]), (55, .int .i64 E)]) (J := fun L_ u ww => Chg (fun _ => False) W ww ∧ (L_ 9 = true → ∃ b7, u 8 = .pointer (some ⟨b7, 0, none⟩) ∧ W.heap.size ≤ b7 ∧ ww.heap[b7]? = some (.cells (if L_ 10 = true then #[.int .i64 t.n, .int .i64 t.a, .int .i64 t.b, .int .i64 t.c, .int .i64 t.d] else #[.int .i64 0, .int .i64 0, .int .i64 0, .int .i64 0, .int .i64 0]) 27 (0, 0))) ∧ (L_ 10 = true → L_ 9 = true)) [5, 9, 10] ([]) (fun q => match q with | 8 => u8 | 47 => u47 | 48 => u48 | 49 => u49 | 50 => u50 | 51 => u51 | 52 => u52 | 53 => u53 | 54 => u54 | 55 => u55 | _ => undef) rfl (by kernel_rfl) 11 _ rfl rfl (by kernel_rfl) (by kernel_rfl) ?_ ?_ ?_ ?_ ?_
          · repeat (refine ⟨fun _ _ => rfl, ?_⟩)
            exact trivial
          · intro L_ L2 u u2 ww h hj
            have e7 : u 8 = u2 8 := (h 9 (by decide)).2
            have l9 : L_ 9 = L2 9 := (h 9 (by decide)).1
            have l10 : L_ 10 = L2 10 := (h 10 (by decide)).1
            show _ ∧ _ ∧ _
            rw [← e7, ← l9, ← l10]
            exact hj
          · exact ⟨(Chg.refl _ W).drew, (fun h => nomatch h), (fun h => nomatch h)⟩
          · refine ⟨?_, ?_, ?_, ?_, ?_, ?_, ?_, ?_, ?_, ?_, ?_, trivial⟩
            · show StepRS _ _ _ _ _ _ _ _ -- 48
              unfold StepRS
              intro L_ u w_ hj hd K hK
              clear hd
              obtain ⟨q0, q1, q2, q3, q4⟩ := cells5 (blk_keep HRX.out hj.1 (fun f => f))
              clear hj
              go_simp
              exact hK.out _ rfl
            · show StepRS _ _ _ _ _ _ _ _ -- 49
              unfold StepRS
              intro L_ u w_ hj hd K hK
              clear hd
              clear hj
              go_simp
              exact hK.out _ rfl
            · show StepRS _ _ _ _ _ _ _ _ -- 50
              unfold StepRS
              intro L_ u w_ hj hd K hK
              clear hd
              clear hj
              go_simp
              exact hK.out _ rfl
            · show StepRS _ _ _ _ _ _ _ _ -- 51
              unfold StepRS
              intro L_ u w_ hj hd K hK
              have h49 : u 49 = .slice (some ⟨b, off, none⟩) L c := hd.get 1 (by kernel_rfl)
              have h50 : u 50 = .int .i64 (i : Int) := hd.get 2 (by kernel_rfl)
              clear hd
              simp only [h49, h50] at hK
              clear hj
              go_simp
              exact hK.out _ rfl
            · show StepRS _ _ _ _ _ _ _ _ -- 52
              unfold StepRS
              intro L_ u w_ hj hd K hK
              have h51 : u 51 = .pointer (some ⟨b, off + i * 4, none⟩) := hd.get 3 (by kernel_rfl)
              clear hd
              simp only [h51] at hK
              have q0 := cell_chg h0 hj.1
              have q1 := cell_chg h1 hj.1
              have q2 := cell_chg h2 hj.1
              have q3 := cell_chg h3 hj.1
              clear hj
              go_simp
              exact hK.out _ rfl
            · show StepWS _ _ _ _ _ _ _ _ _ -- 53
              unfold StepWS
              intro L_ u w_ hj hli hwt hd K hK
              have h48 : u 48 = .agg #[.int .i64 s.n, .int .i64 s.a, .int .i64 s.b, .int .i64 s.c, .int .i64 s.d] := hd.get 0 (by kernel_rfl)
              have h52 : u 52 = .agg #[.int .i64 k, .int .u8 yb, .int .i64 yl, .int .i64 yd] := hd.get 4 (by kernel_rfl)
              clear hd
              simp only [h48, h52] at hK
              obtain ⟨hc, h9, h10⟩ := hj
              go_simp
              go_at_call 8
              refine (HX.out w_ (HTA.out w_ hc)).mono ?_
              rintro z w2 ⟨rfl, c2⟩
              refine hK.out _ w2 ⟨chg_then hc c2, fun e => ?_, h10⟩ rfl
              obtain ⟨b7, e7, hb7, hk7⟩ := h9 e
              exact ⟨b7, e7, hb7, blk_keep hk7 c2 (fun f => f)⟩
            · show StepRS _ _ _ _ _ _ _ _ -- 47
              unfold StepRS
              intro L_ u w_ hj hd K hK
              have h53 : u 53 = .tuple #[.agg #[.int .i64 t.n, .int .i64 t.a, .int .i64 t.b, .int .i64 t.c, .int .i64 t.d], .int .i64 E] := hd.get 5 (by kernel_rfl)
              clear hd
              simp only [h53] at hK
              clear hj
              go_simp
              exact hK.out _ rfl
            · show StepRS _ _ _ _ _ _ _ _ -- 54
              unfold StepRS
              intro L_ u w_ hj hd K hK
              have h47 : u 47 = .tuple #[.agg #[.int .i64 t.n, .int .i64 t.a, .int .i64 t.b, .int .i64 t.c, .int .i64 t.d], .int .i64 E] := hd.get 6 (by kernel_rfl)
              clear hd
              simp only [h47] at hK
              clear hj
              go_simp
              exact hK.out _ rfl
            · show StepRS _ _ _ _ _ _ _ _ -- 55
              unfold StepRS
              intro L_ u w_ hj hd K hK
              have h47 : u 47 = .tuple #[.agg #[.int .i64 t.n, .int .i64 t.a, .int .i64 t.b, .int .i64 t.c, .int .i64 t.d], .int .i64 E] := hd.get 6 (by kernel_rfl)
              clear hd
              simp only [h47] at hK
              clear hj
              go_simp
              exact hK.out _ rfl
            · show StepWS _ _ _ _ _ _ _ _ _ -- 8
              unfold StepWS
              intro L_ u w_ hj hli hwt hd K hK
              clear hd
              obtain ⟨hc, h9, h10⟩ := hj
              have n9 : L_ 9 ≠ true := by rw [hli]; decide
              have n10 : ¬ L_ 10 = true := fun e => n9 (h10 e)
              go_simp
              refine hK.out _ _ ⟨hc.alloc _, fun _ => ⟨_, rfl, hc.size, ?_⟩, fun _ => rfl⟩ trivial
              show _ = some (Obj.cells (if L_ 10 = true then #[.int .i64 t.n, .int .i64 t.a, .int .i64 t.b, .int .i64 t.c, .int .i64 t.d] else #[.int .i64 0, .int .i64 0, .int .i64 0, .int .i64 0, .int .i64 0]) 27 (0, 0))
              rw [if_neg n10]
              exact heap_alloc_last _ _
            · show StepWS _ _ _ _ _ _ _ _ _ -- #10
              unfold StepWS
              intro L_ u w_ hj hli hwt hd K hK
              have h54 : u 54 = .agg #[.int .i64 t.n, .int .i64 t.a, .int .i64 t.b, .int .i64 t.c, .int .i64 t.d] := hd.get 7 (by kernel_rfl)
              clear hd
              simp only [h54] at hK
              obtain ⟨hc, h9, h10⟩ := hj
              have l9 : L_ 9 = true := hwt ⟨9, .data⟩ (by simp) rfl
              have n10 : ¬ L_ 10 = true := by rw [hli]; decide
              obtain ⟨b7, e7, hb7, hk7⟩ := h9 l9
              rw [if_neg n10] at hk7
              obtain ⟨⟨p0, f0⟩, ⟨p1, f1⟩, ⟨p2, f2⟩, ⟨p3, f3⟩, ⟨p4, f4⟩, hblk, hchg⟩ := put5_of hk7 (.int .i64 t.n) (.int .i64 t.a) (.int .i64 t.b) (.int .i64 t.c) (.int .i64 t.d)
              have HL9 : Hid (L_ 9 = true) := l9
              have HBK : Hid _ := hblk
              have HCH : Hid (Chg (fun _ => False) W _) := hc.trans hchg (fun z e => .inr (by omega))
              clear l9 n10 h9 h10 hblk hchg
              simp only [e7] at hK ⊢
              go_simp
              exact hK.out undef _ ⟨HCH.out, fun _ => ⟨b7, e7, hb7, HBK.out⟩, fun _ => HL9.out⟩ trivial
          · intro u w9 hj hA K hK
            obtain ⟨hc9, h9, _⟩ := hj
            obtain ⟨b8, e8, hb8, hk8⟩ := h9 rfl
            rw [if_pos rfl] at hk8
            have e55 : u 55 = .int .i64 E := hA.at 55 (by kernel_rfl)
            have HG9 : Hid (Gg w w9 bs br s) := HG7.out.new hc9
            have HB9 : Hid (w9.heap[b7]? = some (.cells #[.int .i64 t.n, .int .i64 t.a, .int .i64 t.b, .int .i64 t.c, .int .i64 t.d] 25 (0, 0))) := blk_keep HB7.out hc9 (fun f => f)
            have HB8 : Hid (w9.heap[b8]? = some (.cells #[.int .i64 t.n, .int .i64 t.a, .int .i64 t.b, .int .i64 t.c, .int .i64 t.d] 27 (0, 0))) := hk8
            clear hA h9 hk8 hc9 HX HTA HRX HG7 HB7 hb8 h0 h1 h2 h3
            go_simp
            refine hK.out _ _ ?_
            clear hK e8 e55 K
            try clear W
            have qE : (E != E) = false := by simp
            have qn : (t.n != t.n) = false := by simp
            have q4 := fun ww => nsame4 ww t.a t.b t.c t.d
            obtain ⟨j0, j1, j2, j3, j4⟩ := cells5 HB9.out
            obtain ⟨k0, k1, k2, k3, k4⟩ := cells5 HB8.out
            by_cases hf : E = 0
            · have hE0 : (E == 0) = true := by simp [hf]
              have HRT : Hid (right t) := by
                have hfo : formed ⟨k, yb, yl, yd⟩ = 0 := by
                  have := HNX.out
                  rw [nxt_eq _ HRI.out] at this
                  split at this
                  · injection this with _ h
                    omega
                  · next h => exact Classical.not_not.1 h
                have := (nxt_right HRI.out hfo).2
                rw [HNX.out] at this
                exact this
              clear hf
              obtain ⟨⟨p0, f0⟩, ⟨p1, f1⟩, ⟨p2, f2⟩, ⟨p3, f3⟩, ⟨p4, f4⟩, hblk, hchg⟩ := put5_of HG9.out.box (.int .i64 t.n) (.int .i64 t.a) (.int .i64 t.b) (.int .i64 t.c) (.int .i64 t.d)
              have HBE : Hid _ := hblk
              have HCE : Hid (Chg (fun _ => False) w _) := HG9.out.chg.trans hchg (fun z e => .inr (by have := HG9.out.b0; omega))
              have HRE : Hid _ := blk_keep HG9.out.rbx hchg (fun e => HG9.out.ne e.symm)
              have HKE : Hid _ := blk_keep HB8.out hchg (fun e => by have hb := HG9.out.box; rw [← e] at hb; exact ty_ne hb HB8.out (by decide))
              clear hblk hchg
              go_upto_region 14 with fail
              clear p0 f0 p1 f1 p2 f2 p3 f3 p4 f4 j0 j1 j2 j3 j4 k0 k1 k2 k3 k4
              generalize ((((w9.setCell ⟨bs, 0, none⟩ (.int .i64 t.n)).setCell ⟨bs, 1, none⟩ (.int .i64 t.a)).setCell ⟨bs, 2, none⟩ (.int .i64 t.b)).setCell ⟨bs, 3, none⟩ (.int .i64 t.c)).setCell ⟨bs, 4, none⟩ (.int .i64 t.d) = Wa at *
              obtain ⟨k0, k1, k2, k3, k4⟩ := cells5 HKE.out
              obtain ⟨⟨p0, f0⟩, ⟨p1, f1⟩, ⟨p2, f2⟩, ⟨p3, f3⟩, ⟨p4, f4⟩, hblk, hchg⟩ := put5_of HRE.out (.int .i64 t.n) (.int .i64 t.a) (.int .i64 t.b) (.int .i64 t.c) (.int .i64 t.d)
              have HGN : Hid (Gg w _ bs br t) := ⟨HCE.out.trans hchg (fun z e => .inr (by have := HG9.out.r0; omega)), blk_keep HBE.out hchg (fun e => HG9.out.ne e), hblk, HG9.out.b0, HG9.out.r0⟩
              clear hblk hchg
              go_wp2_with fail
              exact ⟨⟨i + 1, t, by omega, by go_num, HRT.out, HGN.out⟩, by simp [intOf]; omega⟩
            · have hE0 : (E == 0) = false := by simp [hf]
              clear hf
              go_wp2_with fail
              exact ⟨⟨i + 1, s, by omega, by go_num, HRI.out, HG9.out⟩, by simp [intOf]; omega⟩
    · have hd1 : decide ((i : Int) < (L : Int)) = false := by simp; omega
      have hd1' : decide (i < L) = false := decide_eq_false hin
      have HFX : Hid _ := fixed_any S wr (S.keep HT.out HG.out.chg)
      have HCM : Hid _ := HG.out.chg
      obtain ⟨j0, j1, j2, j3, j4⟩ := cells5 HG.out.box
      obtain ⟨k0, k1, k2, k3, k4⟩ := cells5 HG.out.rbx
      have qn : (s.n == s.n) = true := by simp
      have q4 := fun ww => same4 ww s.a s.b s.c s.d
      clear HG hin
      go_wp2_with fail
      refine Calls.mono HFX.out ?_
      rintro z w2 ⟨rfl, c2⟩
      have HC2 : Hid (Chg (fun _ => False) w w2) := chg_then HCM.out c2
      clear c2 HFX HCM
      go_wp2
      go_ret
      exact ⟨rfl, HC2.out⟩
end Go.Proofs.YtkochonjfjlhpabDoor
