/- The landed window's read; of no statement by itself. -/
import Derived.Test.YtlnocjicmofjfaaDoorXf
namespace Go.Proofs.YtlnocjicmofjfaaDoor
open Go.RowKit
set_option linter.unusedVariables false

def ReadJ (w1 : World) (B : Nat) (v : Value) (N : Nat) (xs : List Value) : Nat → World → Prop
  | 0, w => Chg (fun _ => False) w1 w
  | 1, w => Chg (fun _ => False) w1 w
  | _ + 2, w => w.ownsRow B 5 1 v N xs ∧ Chg (fun z => v.ownBlock = some z) w1 w
theorem own_at0 {w : World} {B : Nat} {ad : Option Addr} {n c : Nat} {xs : List Value} (h : w.ownsRow B 5 1 (.slice ad n c) n xs) : ∀ g, (Value.slice ad n c).ownBlock = some g → ad = some ⟨g, 0, none⟩ := fun g e => by
  rcases h.2 with ⟨e0, e1⟩ | ⟨g', cap, cur, e0, _⟩
  · simp only [Value.slice.injEq] at e0
    rw [e0.1] at e
    cases e
  · simp only [Value.slice.injEq, true_and] at e0
    obtain ⟨rfl, rfl⟩ := e0
    simp only [Value.ownBlock, Option.some.injEq] at e
    rw [e]
/-- What is read, in two pieces. -/
theorem read_two {n : Nat} {bs ring : List Nat} (hn : 1 ≤ n) (h : RM n bs ring) (d j s k1 k2 R : Nat) (h1 : 1 ≤ d) (hR : ring.length = R) (h2 : d ≤ R) (hj : j ≤ d) (hs : (bs.length - d) % n = s) (hk1 : Nat.min (R - s) j = k1) (hk2 : j - k1 = k2) : (ring.drop s).take k1 ++ ring.take k2 = (bs.drop (bs.length - d)).take j := by
  rw [h.read hn d j h1 (by omega) hj, hs, hR]
  have hk1' : min (R - s) j = k1 := hk1
  congr 1
  · rw [← hk1']
    by_cases c : j ≤ R - s
    · rw [Nat.min_eq_right c]
    · rw [Nat.min_eq_left (by omega), List.take_of_length_le (by rw [List.length_drop]; omega), List.take_of_length_le (by rw [List.length_drop]; omega)]
  · congr 1
    omega
theorem splice_two (zs y1 y2 : List Nat) (k1 j : Nat) (h1 : y1.length = k1) (h2 : k1 + y2.length = j) (hz : j ≤ zs.length) : (zs.take 0 ++ (y1 ++ zs.drop (0 + y1.length))).take k1 ++ (y2 ++ (zs.take 0 ++ (y1 ++ zs.drop (0 + y1.length))).drop (k1 + y2.length)) = (y1 ++ y2) ++ zs.drop j := by
  rw [List.take_zero, List.nil_append, Nat.zero_add, List.take_left' h1, List.drop_append, List.drop_eq_nil_of_le (by omega), List.nil_append, h1, List.drop_drop, List.append_assoc]
  congr 3
  omega
set_option maxHeartbeats 4000000 in
set_option maxRecDepth 100000 in
theorem wread_any {B a : Nat} {v : Value} {n : Nat} {bs ring : List Nat} (d j N cb B2 : Nat) (bd : Option Addr) (zs : List Nat) (w : World) (h : WinR w B a v n bs ring) (hl : bs.length ≤ 1152921504606846976) (h1 : 1 ≤ d) (h2 : d ≤ ring.length) (hj : j ≤ d) (hjN : j ≤ N) (hob : w.ownsRow B2 5 1 (.slice bd N cb) N (ins .u8 (nums zs))) (hap : ∀ g, (Value.slice bd N cb).ownBlock = some g → ¬ Foot a v g) :
    Calls Tryd.prog 61 #[.pointer (some ⟨a, 0, none⟩), .int .i64 (d : Int), .slice bd j cb] w fun e w' => e = .returned (.int .i64 (j : Int)) ∧ w'.ownsRow B2 5 1 (.slice bd N cb) N (ins .u8 (nums ((bs.drop (bs.length - d)).take j ++ zs.drop j))) ∧ Chg (fun z => (Value.slice bd N cb).ownBlock = some z) w w' := by
  have hzl : zs.length = N := by have := hob.1; simp [ins, nums] at this; omega
  obtain ⟨ad0, c0, hv⟩ := form1 h.own
  obtain ⟨R, hR⟩ : ∃ R, ring.length = R := ⟨_, rfl⟩
  obtain ⟨L, hL⟩ : ∃ L, bs.length = L := ⟨_, rfl⟩
  obtain ⟨s, hs⟩ : ∃ s, (L - d) % n = s := ⟨_, rfl⟩
  have HBACK : Hid (∀ w1, Chg (fun _ => False) w w1 → Calls Tryd.prog 51 #[.pointer (some ⟨a, 0, none⟩), .int .i64 (d : Int)] w1 fun e w' => e = .returned (.int .i64 (s : Int)) ∧ ∃ k, w' = w1.drewN k) := fun w1 c1 => by
    have := wback_any d w1 (h.new c1) hl h2
    rw [hL, hs] at this
    exact this
  have hsR0 : s < R := by
    have := h.ok.at h.n1 d h1 h2
    rw [hL, hs] at this
    have := (List.getElem?_eq_some_iff.1 this).1
    omega
  rw [hR] at hv h2
  have hsm := h.small
  have hsR : s ≤ R := by omega
  obtain ⟨k1, hk1⟩ : ∃ k1, Nat.min (R - s) j = k1 := ⟨_, rfl⟩
  have hk1j : k1 ≤ j := by rw [← hk1]; exact Nat.min_le_right _ _
  have hk1r : k1 ≤ R - s := by rw [← hk1]; exact Nat.min_le_left _ _
  obtain ⟨k2, hk2⟩ : ∃ k2, j - k1 = k2 := ⟨_, rfl⟩
  have hrt := read_two h.n1 h.ok d j s k1 k2 R h1 hR h2 hj (by rw [hL]; exact hs) hk1 hk2
  obtain ⟨ys1, hy1⟩ : ∃ ys1, (ring.drop s).take k1 = ys1 := ⟨_, rfl⟩
  obtain ⟨ys2, hy2⟩ : ∃ ys2, ring.take k2 = ys2 := ⟨_, rfl⟩
  rw [hy1, hy2] at hrt
  have hl1 : ys1.length = k1 := by rw [← hy1, List.length_take, List.length_drop]; omega
  have hl2 : ys2.length = k2 := by rw [← hy2, List.length_take]; omega
  obtain ⟨zs1, hz1⟩ : ∃ zs1, zs.take 0 ++ (ys1 ++ zs.drop (0 + ys1.length)) = zs1 := ⟨_, rfl⟩
  have hfin := splice_two zs ys1 ys2 k1 j hl1 (by omega) (by omega)
  rw [hz1, hrt] at hfin
  have hadd : (k1 : Int) + (k2 : Int) = (j : Int) := by omega
  have hjb : (j : Int) ≤ 4294967295 := by omega
  have hwj : IntKind.i64.wrap (j : Int) = (j : Int) := wr64 (by omega) (by omega)
  have HH : Hid (WinR w B a (.slice ad0 R c0) n bs ring) := by rw [← hv]; exact h
  have HOB : Hid (w.ownsRow B2 5 1 (.slice bd N cb) N (ins .u8 (nums zs))) := hob
  have HBK : Hid (w.heap[a]? = some (.cells #[.int .i64 (n : Int), .int .i64 (L : Int), .slice ad0 R c0] 84 (0, 0))) := by have := h.blk; rw [hL, hv] at this; exact this
  have HRR : Hid (Row8 w ad0 R c0 (nums ring)) := row8_own (by have := h.own; rw [hR, hv] at this; exact this)
  have hRc : R ≤ c0 := own_cap (by have := h.own; rw [hR, hv] at this; exact this)
  have HRS : Hid (Row8 w (cutA ad0 c0 s) (R - s) (c0 - s) (nums (ring.drop s))) := by
    have := row8_drop HRR.out s hsR hRc
    rw [show (nums ring).drop s = nums (ring.drop s) by simp [nums, List.map_drop]] at this
    exact this
  have HLN1 : Hid (((nums ys1).map (Value.int .u8)).length = Nat.min (R - s) j) := by show _ = _; rw [List.length_map, nums_len, hl1, hk1]
  have HFT1 : Hid (0 + ((nums ys1).map (Value.int .u8)).length ≤ N) := by show _ ≤ _; rw [List.length_map, nums_len, hl1]; omega
  have HDS1 : Hid (∀ g, (Value.slice bd N cb).ownBlock = some g → bd = some ⟨g, 0, none⟩) := own_at0 hob
  have HYS1 : Hid (ring.drop s = ys1 ++ (ring.drop s).drop k1) := by show _ = _; rw [← hy1, List.take_append_drop]
  have HYL1 : Hid (ys1.length = k1) := hl1
  have HLN2 : Hid (((nums ys2).map (Value.int .u8)).length = Nat.min R (j - k1)) := by show _ = _; rw [List.length_map, nums_len, hl2, hk2, show Nat.min R k2 = k2 from Nat.min_eq_right (by omega)]
  have HFT2 : Hid (k1 + ((nums ys2).map (Value.int .u8)).length ≤ N) := by show _ ≤ _; rw [List.length_map, nums_len, hl2]; omega
  have HDS2 : Hid (0 < ((nums ys2).map (Value.int .u8)).length → ∀ g, (Value.slice bd N cb).ownBlock = some g → cutA bd cb k1 = some ⟨g, k1, none⟩) := fun h0 => by
    rw [List.length_map, nums_len, hl2] at h0
    exact dst_at hob k1 (by omega)
  have HYS2 : Hid (ring = ys2 ++ ring.drop k2) := by show _ = _; rw [← hy2, List.take_append_drop]
  have HYL2 : Hid (ys2.length = k2) := hl2
  have HNA : Hid ((Value.slice bd N cb).ownBlock ≠ some a) := fun e => hap a e (.inl rfl)
  have HNR : Hid (∀ x, ad0 = some x → ¬ (Value.slice bd N cb).ownBlock = some x.block) := fun x e f => hap _ f (.inr (by rw [hv, e]; rfl))
  have HZ1 : Hid (splice (ins .u8 (nums zs)) 0 ((nums ys1).map (Value.int .u8)) = ins .u8 (nums zs1)) := by show _ = _; rw [splice_nums, hz1]
  have HZ2 : Hid (splice (ins .u8 (nums zs1)) k1 ((nums ys2).map (Value.int .u8)) = ins .u8 (nums ((bs.drop (L - d)).take j ++ zs.drop j))) := by show _ = _; rw [splice_nums, hfin, hL]
  rw [hL]
  clear h hl h1 h2 hj hob hap hzl hs hsR0 hsm hk1 hk2 hrt hy1 hy2 hl1 hl2 hz1 hfin hv hR hL hk1r hRc
  go_enter Tryd.func61, Tryd.ntmps61
  go_wp2_with fail
  refine wp_region_phase (mk := fun u => #[_, _, _, _, _, _, _, _, u 8, u 9, u 10, u 11, u 12, u 13, u 14, u 15, u 16, u 17, _, _, _, _, _, _, _, _, _, _]) (G := lookG [(8, .slice bd j cb), (9, .pointer (some ⟨a, 0, none⟩)), (10, .pointer (some ⟨a, 0, none⟩)), (11, .pointer (some ⟨a, 2, none⟩)), (12, .slice ad0 R c0), (13, .pointer (some ⟨a, 0, none⟩)), (14, .int .i64 (d : Int)), (15, .int .i64 (s : Int)), (16, .slice (cutA ad0 c0 s) (R - s) (c0 - s)), (17, .int .i64 (k1 : Int))]) (J := fun q _ ww => ww.heap[a]? = some (.cells #[.int .i64 (n : Int), .int .i64 (L : Int), .slice ad0 R c0] 84 (0, 0)) ∧ ReadJ w B2 (.slice bd N cb) N (splice (ins .u8 (nums zs)) 0 ((nums ys1).map (Value.int .u8))) q ww) [7, 9] (fun _ => undef) rfl (by kernel_rfl) 10 _ rfl rfl (by kernel_rfl) (by kernel_rfl) (by kernel_rfl) (by decide) ?_ ?_ ?_ ?_ ?_
  · repeat (refine ⟨⟨_, rfl, fun _ _ => rfl⟩, ?_⟩)
    exact trivial
  · exact fun q u u2 ww _ h => h
  · exact ⟨blk_keep HBK.out (Chg.refl (fun _ => False) w).drew (fun f => f), (Chg.refl _ w).drew⟩
  · refine ⟨?_, ?_, ?_, ?_, ?_, ?_, ?_, ?_, ?_, ?_, trivial⟩
    · show StepR _ _ _ _ _ _  _ -- 8
      unfold StepR
      intro q u w_ hj hd K hK
      clear hd
      go_simp
      exact hK.out (.slice bd j cb) rfl
    · show StepR _ _ _ _ _ _  _ -- 9
      unfold StepR
      intro q u w_ hj hd K hK
      clear hd
      go_simp
      exact hK.out (.pointer (some ⟨a, 0, none⟩)) rfl
    · show StepR _ _ _ _ _ _  _ -- 10
      unfold StepR
      intro q u w_ hj hd K hK
      have h9 : u 9 = .pointer (some ⟨a, 0, none⟩) := hd.get 1 (by kernel_rfl)
      clear hd
      simp only [h9] at hK
      go_simp
      exact hK.out (.pointer (some ⟨a, 0, none⟩)) rfl
    · show StepR _ _ _ _ _ _  _ -- 11
      unfold StepR
      intro q u w_ hj hd K hK
      have h10 : u 10 = .pointer (some ⟨a, 0, none⟩) := hd.get 2 (by kernel_rfl)
      clear hd
      simp only [h10] at hK
      go_simp
      exact hK.out (.pointer (some ⟨a, 2, none⟩)) rfl
    · show StepR _ _ _ _ _ _  _ -- 12
      unfold StepR
      intro q u w_ hj hd K hK
      have h11 : u 11 = .pointer (some ⟨a, 2, none⟩) := hd.get 3 (by kernel_rfl)
      clear hd
      simp only [h11] at hK
      obtain ⟨x0, x1, x2, _⟩ := cells3 hj.1
      go_simp
      exact hK.out _ rfl
    · show StepR _ _ _ _ _ _  _ -- 13
      unfold StepR
      intro q u w_ hj hd K hK
      clear hd
      go_simp
      exact hK.out (.pointer (some ⟨a, 0, none⟩)) rfl
    · show StepR _ _ _ _ _ _  _ -- 14
      unfold StepR
      intro q u w_ hj hd K hK
      clear hd
      go_simp
      exact hK.out (.int .i64 (d : Int)) rfl
    · show StepW _ _ _ _ _ _ 0 _ -- 15
      unfold StepW
      intro u w_ hj hd K hK
      have h13 : u 13 = .pointer (some ⟨a, 0, none⟩) := hd.get 5 (by kernel_rfl)
      have h14 : u 14 = .int .i64 (d : Int) := hd.get 6 (by kernel_rfl)
      clear hd
      simp only [h13, h14] at hK
      obtain ⟨hb, hc⟩ := hj
      have hc : Chg (fun _ => False) w w_ := hc
      go_simp
      go_at_call 51
      refine (HBACK.out w_ hc).mono ?_
      rintro z w2 ⟨rfl, q2, rfl⟩
      exact hK.out _ _ ⟨blk_keep hb (chg_drewN w_ q2) (fun f => f), chg_then hc (chg_drewN w_ q2)⟩ rfl
    · show StepR _ _ _ _ _ _  _ -- 16
      unfold StepR
      intro q u w_ hj hd K hK
      have h12 : u 12 = .slice ad0 R c0 := hd.get 4 (by kernel_rfl)
      have h15 : u 15 = .int .i64 (s : Int) := hd.get 7 (by kernel_rfl)
      clear hd
      refine step_cut_lo (a := ⟨_, []⟩) (by rfl) (.tmp 12) (.tmp 15) (by rfl) ad0 R c0 s (by exact h12) (by exact h15) hsR (hK.out _ rfl)
    · show StepW _ _ _ _ _ _ 1 _ -- 17
      unfold StepW
      intro u w_ hj hd K hK
      have h8 : u 8 = .slice bd j cb := hd.get 0 (by kernel_rfl)
      have h16 : u 16 = .slice (cutA ad0 c0 s) (R - s) (c0 - s) := hd.get 8 (by kernel_rfl)
      clear hd
      obtain ⟨hb, hc⟩ := hj
      have hc : Chg (fun _ => False) w w_ := hc
      refine step_copy_own (a := ⟨_, []⟩) (by rfl) (.tmp 8) (.tmp 16) 24 24 (by rfl) B2 5 Tryd.underlying24 sizeInfo8 (.slice bd N cb) N (ins .u8 (nums zs)) (ownsRow_keep HOB.out hc (fun _ _ f => f)) 0 bd j cb (by exact h8) (cutA ad0 c0 s) (R - s) (c0 - s) (by exact h16) ((nums ys1).map (Value.int .u8)) HLN1.out HFT1.out (fun _ => HDS1.out) (fun h0 => src_front (Bk.row8_chg HRS.out hc) HYS1.out h0) (one8 ys1) ?_
      intro w2 ho2 c2
      have e9 : goInt ((nums ys1).map (Value.int .u8)).length = .int .i64 (k1 : Int) := by rw [List.length_map, nums_len, HYL1.out]; rfl
      rw [e9]
      exact hK.out _ w2 ⟨blk_keep hb c2 (fun f => HNA.out f), ho2, (hc.mono (fun _ f => f.elim)).trans c2 (fun z f => .inl f)⟩ rfl
  · intro u w1 hj hA K hK
    obtain ⟨hb1, ho1, c1⟩ := hj
    have h17 : u 17 = .int .i64 (k1 : Int) := hA.at 17 (by kernel_rfl)
    have HBK1 : Hid (w1.heap[a]? = some (.cells #[.int .i64 (n : Int), .int .i64 (L : Int), .slice ad0 R c0] 84 (0, 0))) := hb1
    have HOB1 : Hid (w1.ownsRow B2 5 1 (.slice bd N cb) N (ins .u8 (nums zs1))) := by rw [← HZ1.out]; exact ho1
    have HRR1 : Hid (Row8 w1 ad0 R c0 (nums ring)) := row8_keep HRR.out c1 HNR.out
    have HC1 : Hid (Chg (fun z => (Value.slice bd N cb).ownBlock = some z) w w1) := c1
    clear hA hb1 ho1 c1 HH HOB HBK HRR HRS HLN1 HFT1 HDS1 HYS1 HYL1 HBACK
    go_simp
    refine hK.out _ _ ?_
    clear hK h17 K
    go_wp2_with fail
    refine wp_region_phase (mk := fun u => #[_, _, _, _, _, _, _, _, _, _, _, _, _, _, _, _, _, _, u 18, u 19, u 20, u 21, u 22, u 23, u 24, u 25, u 26, u 27]) (G := lookG [(18, .int .i64 (k1 : Int)), (19, .slice bd j cb), (20, .int .i64 (k1 : Int)), (21, .slice (cutA bd cb k1) (j - k1) (cb - k1)), (22, .pointer (some ⟨a, 0, none⟩)), (23, .pointer (some ⟨a, 0, none⟩)), (24, .pointer (some ⟨a, 2, none⟩)), (25, .slice ad0 R c0), (26, .int .i64 (k2 : Int)), (27, .int .i64 (j : Int))]) (J := fun q _ ww => ww.heap[a]? = some (.cells #[.int .i64 (n : Int), .int .i64 (L : Int), .slice ad0 R c0] 84 (0, 0)) ∧ LayJ w1 B2 (.slice bd N cb) N (splice (ins .u8 (nums zs1)) k1 ((nums ys2).map (Value.int .u8))) q ww) [8] (fun _ => undef) rfl (by kernel_rfl) 10 _ rfl rfl (by kernel_rfl) (by kernel_rfl) (by kernel_rfl) (by decide) ?_ ?_ ?_ ?_ ?_
    · repeat (refine ⟨⟨_, rfl, fun _ _ => rfl⟩, ?_⟩)
      exact trivial
    · exact fun q u u2 ww _ h => h
    · exact ⟨blk_keep HBK1.out (Chg.refl (fun _ => False) w1).drew (fun f => f), (Chg.refl _ w1).drew⟩
    · refine ⟨?_, ?_, ?_, ?_, ?_, ?_, ?_, ?_, ?_, ?_, trivial⟩
      · show StepR _ _ _ _ _ _  _ -- 18
        unfold StepR
        intro q u w_ hj hd K hK
        clear hd
        go_simp
        exact hK.out (.int .i64 (k1 : Int)) rfl
      · show StepR _ _ _ _ _ _  _ -- 19
        unfold StepR
        intro q u w_ hj hd K hK
        clear hd
        go_simp
        exact hK.out (.slice bd j cb) rfl
      · show StepR _ _ _ _ _ _  _ -- 20
        unfold StepR
        intro q u w_ hj hd K hK
        clear hd
        go_simp
        exact hK.out (.int .i64 (k1 : Int)) rfl
      · show StepR _ _ _ _ _ _  _ -- 21
        unfold StepR
        intro q u w_ hj hd K hK
        have h19 : u 19 = .slice bd j cb := hd.get 1 (by kernel_rfl)
        have h20 : u 20 = .int .i64 (k1 : Int) := hd.get 2 (by kernel_rfl)
        clear hd
        refine step_cut_lo (a := ⟨_, []⟩) (by rfl) (.tmp 19) (.tmp 20) (by rfl) bd j cb k1 (by exact h19) (by exact h20) hk1j (hK.out _ rfl)
      · show StepR _ _ _ _ _ _  _ -- 22
        unfold StepR
        intro q u w_ hj hd K hK
        clear hd
        go_simp
        exact hK.out (.pointer (some ⟨a, 0, none⟩)) rfl
      · show StepR _ _ _ _ _ _  _ -- 23
        unfold StepR
        intro q u w_ hj hd K hK
        have h22 : u 22 = .pointer (some ⟨a, 0, none⟩) := hd.get 4 (by kernel_rfl)
        clear hd
        simp only [h22] at hK
        go_simp
        exact hK.out (.pointer (some ⟨a, 0, none⟩)) rfl
      · show StepR _ _ _ _ _ _  _ -- 24
        unfold StepR
        intro q u w_ hj hd K hK
        have h23 : u 23 = .pointer (some ⟨a, 0, none⟩) := hd.get 5 (by kernel_rfl)
        clear hd
        simp only [h23] at hK
        go_simp
        exact hK.out (.pointer (some ⟨a, 2, none⟩)) rfl
      · show StepR _ _ _ _ _ _  _ -- 25
        unfold StepR
        intro q u w_ hj hd K hK
        have h24 : u 24 = .pointer (some ⟨a, 2, none⟩) := hd.get 6 (by kernel_rfl)
        clear hd
        simp only [h24] at hK
        obtain ⟨x0, x1, x2, _⟩ := cells3 hj.1
        go_simp
        exact hK.out _ rfl
      · show StepW _ _ _ _ _ _ 0 _ -- 26
        unfold StepW
        intro u w_ hj hd K hK
        have h21 : u 21 = .slice (cutA bd cb k1) (j - k1) (cb - k1) := hd.get 3 (by kernel_rfl)
        have h25 : u 25 = .slice ad0 R c0 := hd.get 7 (by kernel_rfl)
        clear hd
        obtain ⟨hb, hc⟩ := hj
        have hc : Chg (fun _ => False) w1 w_ := hc
        refine step_copy_own (a := ⟨_, []⟩) (by rfl) (.tmp 21) (.tmp 25) 24 24 (by rfl) B2 5 Tryd.underlying24 sizeInfo8 (.slice bd N cb) N (ins .u8 (nums zs1)) (ownsRow_keep HOB1.out hc (fun _ _ f => f)) k1 (cutA bd cb k1) (j - k1) (cb - k1) (by exact h21) ad0 R c0 (by exact h25) ((nums ys2).map (Value.int .u8)) HLN2.out HFT2.out (fun h0 => HDS2.out h0) (fun h0 => src_front (Bk.row8_chg HRR1.out hc) HYS2.out h0) (one8 ys2) ?_
        intro w2 ho2 c2
        have e9 : goInt ((nums ys2).map (Value.int .u8)).length = .int .i64 (k2 : Int) := by rw [List.length_map, nums_len, HYL2.out]; rfl
        rw [e9]
        exact hK.out _ w2 ⟨blk_keep hb c2 (fun f => HNA.out f), ho2, (hc.mono (fun _ f => f.elim)).trans c2 (fun z f => .inl f)⟩ rfl
      · show StepR _ _ _ _ _ _  _ -- 27
        unfold StepR
        intro q u w_ hj hd K hK
        have h18 : u 18 = .int .i64 (k1 : Int) := hd.get 0 (by kernel_rfl)
        have h26 : u 26 = .int .i64 (k2 : Int) := hd.get 8 (by kernel_rfl)
        clear hd
        simp only [h18, h26] at hK
        go_simp
        exact hK.out (.int .i64 (j : Int)) rfl
    · intro u w2 hj hA K hK
      obtain ⟨hb2, ho2, c2⟩ := hj
      have h27 : u 27 = .int .i64 (j : Int) := hA.at 27 (by kernel_rfl)
      have HO2 : Hid (w2.ownsRow B2 5 1 (.slice bd N cb) N (ins .u8 (nums ((bs.drop (L - d)).take j ++ zs.drop j)))) := by rw [← HZ2.out]; exact ho2
      have HC2 : Hid (Chg (fun z => (Value.slice bd N cb).ownBlock = some z) w w2) := HC1.out.trans c2 (fun z f => .inl f)
      clear hA hb2 ho2 c2
      go_simp
      refine hK.out _ _ ?_
      clear hK h27 K
      go_wp2
      go_ret
      exact ⟨rfl, HO2.out, HC2.out⟩
end Go.Proofs.YtlnocjicmofjfaaDoor
