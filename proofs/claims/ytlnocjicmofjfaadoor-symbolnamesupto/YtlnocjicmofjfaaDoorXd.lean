/- The landed window's grow; of no statement by itself. -/
import Derived.Test.YtlnocjicmofjfaaDoorBoundH
namespace Go.Proofs.YtlnocjicmofjfaaDoor
open Go.RowKit
set_option linter.unusedVariables false

theorem min_int {m D k : Nat} (h : min m D = k) : (if D < m then (D : Int) else (m : Int)) = (k : Int) := by split <;> omega
def GrowJ (w1 : World) (B : Nat) (v : Value) (N : Nat) (xs : List Value) : Nat → Value → World → Prop
  | 0, _, w => Chg (fun _ => False) w1 w
  | _ + 1, x, w => ∃ a9 d9, x = .slice a9 N d9 ∧ w.ownsRow B 5 1 x N xs ∧ Chg (fun z => v.ownBlock = some z) w1 w ∧ Moved w1 v x
set_option maxHeartbeats 4000000 in
set_option maxRecDepth 100000 in
theorem wgrow_any {B a : Nat} {v : Value} {n : Nat} {bs ring : List Nat} (ad : Option Addr) (m c : Nat) (xs : List Nat) (w : World) (h : WinR w B a v n bs ring) (hB : B ≤ w.heap.size) (hr : Row8 w ad m c (nums xs)) (hdig : Rc.Dig xs) (hap : ∀ x, ad = some x → ¬ Foot a v x.block) (hmc : m ≤ c) (hm : m ≤ 140737488355328) (hl : bs.length + m ≤ 1152921504606846976) (k : Nat) (hk : min m (n - ring.length) = k) :
    Calls Tryd.prog 43 #[.pointer (some ⟨a, 0, none⟩), .slice ad m c] w fun e w' => e = .returned (.slice (cutA ad c k) (m - k) (c - k)) ∧ ∃ v', WinR w' B a v' n (bs ++ xs.take k) (ring ++ xs.take k) ∧ Chg (Foot a v) w w' ∧ Moved w v v' := by
  obtain ⟨iu, hiu, hu0, hu1, hu2⟩ := info_parts infoU8
  obtain ⟨ad0, c0, hv⟩ := form1 h.own
  obtain ⟨ys, hys⟩ : ∃ ys, xs.take k = ys := ⟨_, rfl⟩
  have hmx : xs.length = m := by have := hr.1; rw [nums_len] at this; exact this
  have hyl : ys.length = k := by rw [← hys, List.length_take]; omega
  have hrow : Row8 w ad k c (nums ys) := by
    have := row8_cut hr hmc 0 k c (by omega) (fun e => e)
    rw [nums_cut, List.drop_zero, hys] at this
    have e : (if c = 0 then ad else ad.map (·.add 0)) = ad := by cases ad <;> simp [addr_add0]
    rwa [e] at this
  have HRM : Hid (RM n (bs ++ ys) (ring ++ ys)) := h.ok.grow h.n1 ys (by omega)
  have HDG : Hid (Rc.Dig (bs ++ ys)) := fun x hx => by
    rcases List.mem_append.1 hx with f | f
    · exact h.dig x f
    · exact hdig x (by rw [← hys] at f; exact List.mem_of_mem_take f)
  have hone := one8 ys
  obtain ⟨R, hR⟩ : ∃ R, ring.length = R := ⟨_, rfl⟩
  obtain ⟨L, hL⟩ : ∃ L, bs.length = L := ⟨_, rfl⟩
  rw [hR] at hv hk
  obtain ⟨D, hD⟩ : ∃ D, n - R = D := ⟨_, rfl⟩
  rw [hD] at hk
  have hmin := min_int hk
  have hs := h.small
  have hDi : (n : Int) - (R : Int) = (D : Int) := by omega
  have hn2 : (n : Int) ≤ 4294967295 := by have := h.n2; omega
  have hDb : (D : Int) ≤ 4294967295 := by omega
  have hwr : IntKind.i64.wrap (D : Int) = (D : Int) := wr64 (by omega) (by omega)
  have hRb : (R : Int) ≤ 4294967295 := by omega
  have hmb : (m : Int) ≤ 140737488355328 := by omega
  have hkm : k ≤ m := by omega
  have hkc : k ≤ c := by omega
  have hkD : k ≤ D := by omega
  have hLk : (L : Int) + (k : Int) ≤ 1152921504606846976 := by omega
  have HH : Hid (WinR w B a (.slice ad0 R c0) n bs ring) := by rw [← hv]; exact h
  have HNE : Hid ((Value.slice ad0 R c0).ownBlock ≠ some a) := by rw [← hv]; exact h.ne
  have HRL : Hid (ring.length = R ∧ bs.length = L ∧ ys.length = k) := ⟨hR, hL, hyl⟩
  have HO : Hid (w.ownsRow B 5 1 (.slice ad0 R c0) R (ins .u8 (nums ring))) := by have := h.own; rw [hR, hv] at this; exact this
  have HBK : Hid (w.heap[a]? = some (.cells #[.int .i64 (n : Int), .int .i64 (L : Int), .slice ad0 R c0] 84 (0, 0))) := by have := h.blk; rw [hL, hv] at this; exact this
  have HROW : Hid (Row8 w ad k c (nums ys)) := hrow
  obtain ⟨k0, k1, k2, hf⟩ := cells3 HBK.out
  rw [hys, hv]
  clear h hr hap hdig hl hk hmx hyl hrow hs hD hys hR hL hv
  go_enter Tryd.func43, Tryd.ntmps43
  go_wp2_with fail
  refine wp_region_last (mk := fun u => #[_, _, _, _, _, _, u 6, u 7, u 8, u 9, u 10, u 11, u 12, u 13, u 14, u 15, u 16, u 17, u 18, _, _, _, _, _, _, _, _, _, _, _, _, _, _, _, _, _, _, _, _, _, _]) (F := fun slot vv ww => (look [(6, .val (.slice ad m c)), (7, .val (.int .i64 (m : Int))), (8, .val (.pointer (some ⟨a, 0, none⟩))), (9, .val (.pointer (some ⟨a, 0, none⟩))), (10, .val (.pointer (some ⟨a, 0, none⟩))), (11, .val (.int .i64 (n : Int))), (12, .val (.pointer (some ⟨a, 0, none⟩))), (13, .val (.pointer (some ⟨a, 0, none⟩))), (14, .val (.pointer (some ⟨a, 2, none⟩))), (15, .val (.slice ad0 R c0)), (16, .val (.int .i64 (R : Int))), (17, .val (.int .i64 (D : Int))), (18, .val (.int .i64 (k : Int)))] slot).holds vv ww) (fun _ => undef) rfl (by kernel_rfl) 13 _ rfl rfl (by kernel_rfl) ?_ (fun _ v w w' hc h => Fact.stays _ v w w' hc h) ?_ ?_
  · repeat (refine ⟨⟨_, rfl, fun _ _ => rfl⟩, ?_⟩)
    exact trivial
  · refine ⟨?_, ?_, ?_, ?_, ?_, ?_, ?_, ?_, ?_, ?_, ?_, ?_, ?_, trivial⟩
    · intro u w_ hc hd K hK -- 6
      clear hd
      go_simp
      exact hK.out (.slice ad m c) w_ (Chg.refl _ _) rfl
    · intro u w_ hc hd K hK -- 7
      have h6 : (Fact.val (.slice ad m c)).holds (u 6) w_ := hd.get 0 (by kernel_rfl)
      simp only [Fact.holds] at h6
      clear hd
      simp only [h6] at hK
      go_simp
      exact hK.out (.int .i64 (m : Int)) w_ (Chg.refl _ _) rfl
    · intro u w_ hc hd K hK -- 8
      clear hd
      go_simp
      exact hK.out (.pointer (some ⟨a, 0, none⟩)) w_ (Chg.refl _ _) rfl
    · intro u w_ hc hd K hK -- 9
      have h8 : (Fact.val (.pointer (some ⟨a, 0, none⟩))).holds (u 8) w_ := hd.get 2 (by kernel_rfl)
      simp only [Fact.holds] at h8
      clear hd
      simp only [h8] at hK
      go_simp
      exact hK.out (.pointer (some ⟨a, 0, none⟩)) w_ (Chg.refl _ _) rfl
    · intro u w_ hc hd K hK -- 10
      have h9 : (Fact.val (.pointer (some ⟨a, 0, none⟩))).holds (u 9) w_ := hd.get 3 (by kernel_rfl)
      simp only [Fact.holds] at h9
      clear hd
      simp only [h9] at hK
      go_simp
      exact hK.out (.pointer (some ⟨a, 0, none⟩)) w_ (Chg.refl _ _) rfl
    · intro u w_ hc hd K hK -- 11
      have h10 : (Fact.val (.pointer (some ⟨a, 0, none⟩))).holds (u 10) w_ := hd.get 4 (by kernel_rfl)
      simp only [Fact.holds] at h10
      clear hd
      simp only [h10] at hK
      have hcell := cell_chg k0 hc
      go_simp
      exact hK.out _ _ (Chg.refl _ _) rfl
    · intro u w_ hc hd K hK -- 12
      clear hd
      go_simp
      exact hK.out (.pointer (some ⟨a, 0, none⟩)) w_ (Chg.refl _ _) rfl
    · intro u w_ hc hd K hK -- 13
      have h12 : (Fact.val (.pointer (some ⟨a, 0, none⟩))).holds (u 12) w_ := hd.get 6 (by kernel_rfl)
      simp only [Fact.holds] at h12
      clear hd
      simp only [h12] at hK
      go_simp
      exact hK.out (.pointer (some ⟨a, 0, none⟩)) w_ (Chg.refl _ _) rfl
    · intro u w_ hc hd K hK -- 14
      have h13 : (Fact.val (.pointer (some ⟨a, 0, none⟩))).holds (u 13) w_ := hd.get 7 (by kernel_rfl)
      simp only [Fact.holds] at h13
      clear hd
      simp only [h13] at hK
      go_simp
      exact hK.out (.pointer (some ⟨a, 2, none⟩)) w_ (Chg.refl _ _) rfl
    · intro u w_ hc hd K hK -- 15
      have h14 : (Fact.val (.pointer (some ⟨a, 2, none⟩))).holds (u 14) w_ := hd.get 8 (by kernel_rfl)
      simp only [Fact.holds] at h14
      clear hd
      simp only [h14] at hK
      have hcell := cell_chg k2 hc
      go_simp
      exact hK.out _ _ (Chg.refl _ _) rfl
    · intro u w_ hc hd K hK -- 16
      have h15 : (Fact.val (.slice ad0 R c0)).holds (u 15) w_ := hd.get 9 (by kernel_rfl)
      simp only [Fact.holds] at h15
      clear hd
      simp only [h15] at hK
      go_simp
      exact hK.out (.int .i64 (R : Int)) w_ (Chg.refl _ _) rfl
    · intro u w_ hc hd K hK -- 17
      have h11 : (Fact.val (.int .i64 (n : Int))).holds (u 11) w_ := hd.get 5 (by kernel_rfl)
      simp only [Fact.holds] at h11
      have h16 : (Fact.val (.int .i64 (R : Int))).holds (u 16) w_ := hd.get 10 (by kernel_rfl)
      simp only [Fact.holds] at h16
      clear hd
      simp only [h11, h16] at hK
      go_simp
      exact hK.out (.int .i64 (D : Int)) w_ (Chg.refl _ _) rfl
    · intro u w_ hc hd K hK -- 18
      have h7 : (Fact.val (.int .i64 (m : Int))).holds (u 7) w_ := hd.get 1 (by kernel_rfl)
      simp only [Fact.holds] at h7
      have h17 : (Fact.val (.int .i64 (D : Int))).holds (u 17) w_ := hd.get 11 (by kernel_rfl)
      simp only [Fact.holds] at h17
      clear hd
      simp only [h7, h17] at hK
      go_simp
      first | rw [hmin] | skip
      exact hK.out _ _ (Chg.refl _ _) rfl
  · intro u w1 hc hA K hK
    have h18 : u 18 = .int .i64 (k : Int) := hA.at 18 (by kernel_rfl)
    have HC1 : Hid (Chg (fun _ => False) w w1) := hc
    have HO1 : Hid (w1.ownsRow B 5 1 (.slice ad0 R c0) R (ins .u8 (nums ring))) := ownsRow_keep HO.out hc (fun _ _ f => f)
    have HY1 : Hid (Row8 w1 ad k c (nums ys)) := Bk.row8_chg HROW.out hc
    have HB1 : Hid (B ≤ w1.heap.size) := Nat.le_trans hB hc.size
    have HBK1 : Hid (w1.heap[a]? = some (.cells #[.int .i64 (n : Int), .int .i64 (L : Int), .slice ad0 R c0] 84 (0, 0))) := blk_keep HBK.out hc (fun f => f)
    clear hA hc k0 k1 k2 hf HO HROW HBK
    go_simp
    refine hK.out _ _ ?_
    clear hK h18 K
    go_wp2_with fail
    refine wp_region_phase (mk := fun u => #[_, _, _, _, _, _, _, _, _, _, _, _, _, _, _, _, _, _, _, u 19, u 20, u 21, u 22, u 23, u 24, u 25, u 26, u 27, u 28, u 29, _, _, _, _, _, _, _, _, _, _, _]) (G := lookG [(19, .pointer (some ⟨a, 0, none⟩)), (20, .pointer (some ⟨a, 0, none⟩)), (21, .pointer (some ⟨a, 0, none⟩)), (22, .pointer (some ⟨a, 2, none⟩)), (23, .slice ad0 R c0), (24, .slice ad m c), (25, .int .i64 (k : Int)), (26, .slice ad k c), (28, .pointer (some ⟨a, 0, none⟩)), (29, .pointer (some ⟨a, 2, none⟩))]) (J := fun q u ww => ww.heap[a]? = some (.cells #[.int .i64 (n : Int), .int .i64 (L : Int), .slice ad0 R c0] 84 (0, 0)) ∧ GrowJ w1 B (.slice ad0 R c0) (R + k) (ins .u8 (nums (ring ++ ys))) q (u 27) ww) [8] (fun _ => undef) rfl (by kernel_rfl) 11 _ rfl rfl (by kernel_rfl) (by kernel_rfl) (by kernel_rfl) (by decide) ?_ ?_ ?_ ?_ ?_
    · repeat (refine ⟨⟨_, rfl, fun _ _ => rfl⟩, ?_⟩)
      exact trivial
    · intro q u u2 ww h hj
      have e27 : u 27 = u2 27 := h 8 (by decide)
      show _ ∧ GrowJ w1 B (.slice ad0 R c0) (R + k) (ins .u8 (nums (ring ++ ys))) q (u2 27) ww
      rw [← e27]
      exact hj
    · exact ⟨blk_keep HBK1.out (Chg.refl (fun _ => False) w1).drew (fun f => f), (Chg.refl _ w1).drew⟩
    · refine ⟨?_, ?_, ?_, ?_, ?_, ?_, ?_, ?_, ?_, ?_, ?_, trivial⟩
      · show StepR _ _ _ _ _ _  _ -- 19
        unfold StepR
        intro q u w_ hj hd K hK
        clear hd
        go_simp
        exact hK.out (.pointer (some ⟨a, 0, none⟩)) rfl
      · show StepR _ _ _ _ _ _  _ -- 20
        unfold StepR
        intro q u w_ hj hd K hK
        clear hd
        go_simp
        exact hK.out (.pointer (some ⟨a, 0, none⟩)) rfl
      · show StepR _ _ _ _ _ _  _ -- 21
        unfold StepR
        intro q u w_ hj hd K hK
        have h20 : u 20 = .pointer (some ⟨a, 0, none⟩) := hd.get 1 (by kernel_rfl)
        clear hd
        simp only [h20] at hK
        go_simp
        exact hK.out (.pointer (some ⟨a, 0, none⟩)) rfl
      · show StepR _ _ _ _ _ _  _ -- 22
        unfold StepR
        intro q u w_ hj hd K hK
        have h21 : u 21 = .pointer (some ⟨a, 0, none⟩) := hd.get 2 (by kernel_rfl)
        clear hd
        simp only [h21] at hK
        go_simp
        exact hK.out (.pointer (some ⟨a, 2, none⟩)) rfl
      · show StepR _ _ _ _ _ _  _ -- 23
        unfold StepR
        intro q u w_ hj hd K hK
        have h22 : u 22 = .pointer (some ⟨a, 2, none⟩) := hd.get 3 (by kernel_rfl)
        clear hd
        simp only [h22] at hK
        obtain ⟨_, _, hcell, _⟩ := cells3 hj.1
        go_simp
        exact hK.out _ rfl
      · show StepR _ _ _ _ _ _  _ -- 24
        unfold StepR
        intro q u w_ hj hd K hK
        clear hd
        go_simp
        exact hK.out (.slice ad m c) rfl
      · show StepR _ _ _ _ _ _  _ -- 25
        unfold StepR
        intro q u w_ hj hd K hK
        clear hd
        go_simp
        exact hK.out (.int .i64 (k : Int)) rfl
      · show StepR _ _ _ _ _ _  _ -- 26
        unfold StepR
        intro q u w_ hj hd K hK
        have h24 : u 24 = .slice ad m c := hd.get 5 (by kernel_rfl)
        have h25 : u 25 = .int .i64 (k : Int) := hd.get 6 (by kernel_rfl)
        clear hd
        refine step_cut_hi (a := ⟨_, []⟩) (by rfl) (.tmp 24) (.tmp 25) (by rfl) ad m c k (by exact h24) (by exact h25) hkc (hK.out _ rfl)
      · show StepW _ _ _ _ _ _ 0 _ -- 27
        unfold StepW
        intro u w_ hj hd K hK
        have h23 : u 23 = .slice ad0 R c0 := hd.get 4 (by kernel_rfl)
        have h26 : u 26 = .slice ad k c := hd.get 7 (by kernel_rfl)
        clear hd
        obtain ⟨hb, hc⟩ := hj
        have hc : Chg (fun _ => False) w1 w_ := hc
        refine step_append_moved (a := ⟨_, []⟩) (by rfl) (.tmp 23) (.tmp 26) 24 (by rfl) B 5 iu (.int .u8 0) 1 1 Tryd.underlying24 hiu hu0 hu1 hu2 rfl (by decide) (.slice ad0 R c0) R (ins .u8 (nums ring)) (by exact h23) ad k c (by exact h26) ((nums ys).map (Value.int .u8)) (ownsRow_keep HO1.out hc (fun _ _ f => f)) (Bk.row8_chg HY1.out hc).src hone (by unfold maxLen; omega) (by omega) (Nat.le_trans HB1.out hc.size) ?_
        intro v2 w2 ho hg hm
        have ho2 := own_app ho
        obtain ⟨a9, d9, hv9⟩ := form1 ho2
        have cc : Chg (fun z => (Value.slice ad0 R c0).ownBlock = some z) w_ w2 := (Chg.refl _ w_).grown hg (fun z e => .inl e)
        exact hK.out v2 w2 ⟨blk_keep hb cc (fun f => HNE.out f), a9, d9, hv9, ho2, (hc.mono (fun _ f => f.elim)).trans cc (fun z f => .inl f), moved_from hc.size hm⟩ trivial
      · show StepR _ _ _ _ _ _  _ -- 28
        unfold StepR
        intro q u w_ hj hd K hK
        have h19 : u 19 = .pointer (some ⟨a, 0, none⟩) := hd.get 0 (by kernel_rfl)
        clear hd
        simp only [h19] at hK
        go_simp
        exact hK.out (.pointer (some ⟨a, 0, none⟩)) rfl
      · show StepR _ _ _ _ _ _  _ -- 29
        unfold StepR
        intro q u w_ hj hd K hK
        have h28 : u 28 = .pointer (some ⟨a, 0, none⟩) := hd.get 9 (by kernel_rfl)
        clear hd
        simp only [h28] at hK
        go_simp
        exact hK.out (.pointer (some ⟨a, 2, none⟩)) rfl
    · intro u w2 hj hA K hK
      obtain ⟨hb2, a9, d9, h27, ho2, c2, hm2⟩ := hj
      have hG := HRL.out
      have b3 := set3 hb2 2 (.slice a9 (R + k) d9)
      have b4 := set3 b3 1 (.int .i64 ((L : Int) + (k : Int)))
      have cS : Chg (fun z => z = a) w2 ((w2.setCell ⟨a, 2, none⟩ (.slice a9 (R + k) d9)).setCell ⟨a, 1, none⟩ (.int .i64 ((L : Int) + (k : Int)))) := ((Chg.refl (fun z => z = a) w2).setCell (p := ⟨a, 2, none⟩) (.inl rfl) _).setCell (p := ⟨a, 1, none⟩) (.inl rfl) _
      rw [h27] at ho2 hm2
      have HW : Hid (WinR ((w2.setCell ⟨a, 2, none⟩ (.slice a9 (R + k) d9)).setCell ⟨a, 1, none⟩ (.int .i64 ((L : Int) + (k : Int)))) B a (.slice a9 (R + k) d9) n (bs ++ ys) (ring ++ ys)) := by
        refine ⟨HH.out.hr, ?_, ownsRow_keep (by rw [List.length_append, hG.1, hG.2.2]; exact ho2) cS (fun g e f => ?_), HRM.out, HH.out.n1, HH.out.n2, HDG.out⟩
        · rw [List.length_append, hG.2.1, hG.2.2, Int.natCast_add]
          exact b4
        · rw [f] at e
          obtain ⟨cur, hcur⟩ := owns_blk ho2 e
          exact ty_ne hcur hb2 (by decide)
      have HC : Hid (Chg (Foot a (.slice ad0 R c0)) w ((w2.setCell ⟨a, 2, none⟩ (.slice a9 (R + k) d9)).setCell ⟨a, 1, none⟩ (.int .i64 ((L : Int) + (k : Int))))) := ((HC1.out.mono (fun _ f => f.elim)).trans c2 (fun z f => .inl (.inr f))).trans cS (fun z f => .inl (.inl f))
      have HM : Hid (Moved w (.slice ad0 R c0) (.slice a9 (R + k) d9)) := moved_from HC1.out.size hm2
      obtain ⟨_, _, q2, qf⟩ := cells3 hb2
      obtain ⟨_, q1, _, qg⟩ := cells3 b3
      have h29 : u 29 = .pointer (some ⟨a, 2, none⟩) := hA.at 29 (by kernel_rfl)
      clear hA hG b3 b4 cS ho2 c2 hm2 hb2
      go_simp
      refine hK.out _ _ ?_
      clear hK h27 h29 K
      go_wp2_with (refine wpList_cut_lo rfl _ _ rfl ad m c k rfl rfl hkm ?_)
      go_ret
      exact ⟨rfl, _, HW.out, HC.out, HM.out⟩
end Go.Proofs.YtlnocjicmofjfaaDoor
