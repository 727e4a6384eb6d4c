/- The landed window's Last, Clear, Fork; of no statement by themselves. -/
import Derived.Test.YthgibmhbgfjkcaaXa
namespace Go.Proofs.Ythgibmhbgfjkcaa
open Go.RowKit
set_option linter.unusedVariables false

theorem wclear_any (B a : Nat) (v : Value) (n : Nat) (bs : List Nat) (w : World) (h : Win w B a v n bs) (hB : B ≤ w.heap.size) : Calls Try.prog 16 #[.pointer (some ⟨a, 0, none⟩)] w fun e w' => e = .returned (.tuple #[]) ∧ ∃ v', Win w' B a v' n [] ∧ Chg (Foot a v) w w' ∧ Moved w v v' := by
  obtain ⟨ring, h⟩ := h
  obtain ⟨k0, k1, k2, hf⟩ := cells3 h.blk
  have HH : Hid (WinR w B a v n bs ring) := h
  clear h
  go_enter Try.func16, Try.ntmps16
  go_wp2_with fail
  have h1 := set3 HH.out.blk 0 (.int .i64 (n : Int))
  have h2 := set3 h1 1 (.int .i64 0)
  have h3 := set3 h2 2 (.slice none 0 0)
  have hc := (((Chg.refl (Foot a v) w).setCell (p := ⟨a, 0, none⟩) (.inl (.inl rfl)) (.int .i64 (n : Int))).setCell (p := ⟨a, 1, none⟩) (.inl (.inl rfl)) (.int .i64 0)).setCell (p := ⟨a, 2, none⟩) (.inl (.inl rfl)) (.slice none 0 0)
  go_end0
  exact ⟨rfl, .slice none 0 0, ⟨[], HH.out.hr, h3, World.ownsRow_nil _ _ _ _, RM.nil n, HH.out.n1, HH.out.n2, fun x hx => (List.not_mem_nil hx).elim⟩, hc, fun g e => by cases e⟩
theorem eq_nil_some8 (x : Addr) (n c : Nat) (w : World) : (binOp .eql 22 (.slice (some x) n c) (.slice none 0 0)).run Try.prog w = .ok (.bool false) w := by kernel_rfl
theorem eq_nil_none8 (w : World) : (binOp .eql 22 (.slice none 0 0) (.slice none 0 0)).run Try.prog w = .ok (.bool true) w := by kernel_rfl
set_option maxHeartbeats 1000000 in
set_option maxRecDepth 100000 in
theorem bclone_any (B : Nat) (v : Value) (xs : List Nat) (w : World) (h : w.ownsRow B 5 1 v xs.length (ins .u8 (nums xs))) (hn : xs.length ≤ 4294967295) :
    Calls Try.prog 28 #[v] w fun e w' => ∃ v', e = .returned v' ∧ w'.ownsRow w.heap.size 5 1 v' xs.length (ins .u8 (nums xs)) ∧ Chg (fun _ => False) w w' := by
  obtain ⟨i0, hi, hz0, hz1, hz2⟩ := info_parts infoU8
  have hone := ins_one .u8 (nums xs)
  rcases h.2 with ⟨rfl, e0⟩ | ⟨g, cap, cur, rfl, _⟩
  · have hx : xs = [] := List.eq_nil_of_length_eq_zero e0
    subst hx
    have heq := eq_nil_none8 w
    go_enter Try.func28, Try.ntmps28
    go_wp2
    go_ret
    exact ⟨_, rfl, World.ownsRow_nil _ _ _ _, Chg.refl _ _⟩
  · have hF := own_from h
    have c1 := chg_one w (.cells #[] 5)
    have hF1 := hF.keep c1
    have hE := own_empty w 5
    have hs : w.heap.size ≤ (w.alloc (.cells #[] 5)).heap.size := c1.size
    have heq := eq_nil_some8 ⟨g, 0, none⟩ xs.length cap w
    clear h hF
    go_enter Try.func28, Try.ntmps28
    go_wp2_with (at_builtin; refine wpList_append_moved rfl _ _ 22 rfl w.heap.size 5 i0 (.int .u8 0) 1 1 Try.underlying22 hi hz0 hz1 hz2 rfl (by decide) _ 0 [] rfl (some ⟨g, 0, none⟩) xs.length cap rfl (ins .u8 (nums xs)) hE hF1 hone (by unfold maxLen; omega) (by omega) hs ?_)
    intro v2 w2 ho hg hm
    have HC : Hid (Chg (fun _ => False) w w2) := c1.grown hg (fun k e => .inr (hE.lt k e).1)
    have HO : Hid (w2.ownsRow w.heap.size 5 1 v2 xs.length (ins .u8 (nums xs))) := by simpa [Hid] using ho
    clear ho hg hm hE hF1 c1
    go_wp2
    go_ret
    exact ⟨_, rfl, HO.out, HC.out⟩
set_option maxHeartbeats 2000000 in
set_option maxRecDepth 100000 in
theorem wfork_any (B a : Nat) (v : Value) (n : Nat) (bs : List Nat) (w : World) (h : Win w B a v n bs) : Calls Try.prog 15 #[.pointer (some ⟨a, 0, none⟩)] w fun e w' => ∃ a' v', e = .returned (.pointer (some ⟨a', 0, none⟩)) ∧ Win w' w.heap.size a' v' n bs ∧ Chg (fun _ => False) w w' := by
  obtain ⟨ring, h⟩ := h
  obtain ⟨ad0, c0, hv⟩ := form1 h.own
  subst hv
  obtain ⟨k0, k1, k2, hf⟩ := cells3 h.blk
  obtain ⟨L, hL⟩ : ∃ L, bs.length = L := ⟨_, rfl⟩
  have HL : Hid (bs.length = L) := hL
  rw [hL] at k1
  have HH : Hid (WinR w B a (.slice ad0 ring.length c0) n bs ring) := h
  have HO : Hid (w.ownsRow B 5 1 (.slice ad0 ring.length c0) ring.length (ins .u8 (nums ring))) := h.own
  have hrl := h.small.2.1
  clear h hL
  go_enter Try.func15, Try.ntmps15
  go_wp2_with fail
  refine wp_region_last (mk := fun u => #[_, _, _, u 3, u 4, u 5, u 6, u 7, u 8, u 9, u 10, u 11, u 12, u 13, u 14, u 15, u 16, u 17]) (F := fun slot vv ww => (look [(3, .val (.pointer (some ⟨a, 0, none⟩))), (4, .val (.pointer (some ⟨a, 0, none⟩))), (5, .val (.pointer (some ⟨a, 0, none⟩))), (6, .val (.int .i64 (n : Int))), (7, .val (.pointer (some ⟨a, 0, none⟩))), (8, .val (.pointer (some ⟨a, 0, none⟩))), (9, .val (.pointer (some ⟨a, 1, none⟩))), (10, .val (.int .i64 (L : Int))), (11, .val (.pointer (some ⟨a, 0, none⟩))), (12, .val (.pointer (some ⟨a, 0, none⟩))), (13, .val (.pointer (some ⟨a, 2, none⟩))), (14, .val (.slice ad0 ring.length c0)), (15, .is (fun q wq => wq.ownsRow w.heap.size 5 1 q ring.length (ins .u8 (nums ring)))), (16, .is (fun q wq => ∃ ad c, q = .agg #[.int .i64 (n : Int), .int .i64 (L : Int), .slice ad ring.length c] ∧ wq.ownsRow w.heap.size 5 1 (.slice ad ring.length c) ring.length (ins .u8 (nums ring)))), (17, .is (fun q wq => ∃ a' v', q = .pointer (some ⟨a', 0, none⟩) ∧ WinR wq w.heap.size a' v' n bs ring))] slot).holds vv ww) (fun _ => undef) rfl (by kernel_rfl) 15 _ rfl rfl (by kernel_rfl) ?_ (fun _ v w w' hc h => Fact.stays _ v w w' hc h) ?_ ?_
  · repeat (refine ⟨⟨_, rfl, fun _ _ => rfl⟩, ?_⟩)
    exact trivial
  · refine ⟨?_, ?_, ?_, ?_, ?_, ?_, ?_, ?_, ?_, ?_, ?_, ?_, ?_, ?_, ?_, trivial⟩
    · intro u w_ hc hd K hK -- 3
      clear hd
      go_simp
      exact hK.out (.pointer (some ⟨a, 0, none⟩)) w_ (Chg.refl _ _) rfl
    · intro u w_ hc hd K hK -- 4
      have h3 : (Fact.val (.pointer (some ⟨a, 0, none⟩))).holds (u 3) w_ := hd.get 0 (by kernel_rfl)
      simp only [Fact.holds] at h3
      clear hd
      simp only [h3] at hK
      go_simp
      exact hK.out (.pointer (some ⟨a, 0, none⟩)) w_ (Chg.refl _ _) rfl
    · intro u w_ hc hd K hK -- 5
      have h4 : (Fact.val (.pointer (some ⟨a, 0, none⟩))).holds (u 4) w_ := hd.get 1 (by kernel_rfl)
      simp only [Fact.holds] at h4
      clear hd
      simp only [h4] at hK
      go_simp
      exact hK.out (.pointer (some ⟨a, 0, none⟩)) w_ (Chg.refl _ _) rfl
    · intro u w_ hc hd K hK -- 6
      have h5 : (Fact.val (.pointer (some ⟨a, 0, none⟩))).holds (u 5) w_ := hd.get 2 (by kernel_rfl)
      simp only [Fact.holds] at h5
      clear hd
      simp only [h5] at hK
      have hcell := cell_chg k0 hc
      go_simp
      exact hK.out _ _ (Chg.refl _ _) rfl
    · intro u w_ hc hd K hK -- 7
      clear hd
      go_simp
      exact hK.out (.pointer (some ⟨a, 0, none⟩)) w_ (Chg.refl _ _) rfl
    · intro u w_ hc hd K hK -- 8
      have h7 : (Fact.val (.pointer (some ⟨a, 0, none⟩))).holds (u 7) w_ := hd.get 4 (by kernel_rfl)
      simp only [Fact.holds] at h7
      clear hd
      simp only [h7] at hK
      go_simp
      exact hK.out (.pointer (some ⟨a, 0, none⟩)) w_ (Chg.refl _ _) rfl
    · intro u w_ hc hd K hK -- 9
      have h8 : (Fact.val (.pointer (some ⟨a, 0, none⟩))).holds (u 8) w_ := hd.get 5 (by kernel_rfl)
      simp only [Fact.holds] at h8
      clear hd
      simp only [h8] at hK
      go_simp
      exact hK.out (.pointer (some ⟨a, 1, none⟩)) w_ (Chg.refl _ _) rfl
    · intro u w_ hc hd K hK -- 10
      have h9 : (Fact.val (.pointer (some ⟨a, 1, none⟩))).holds (u 9) w_ := hd.get 6 (by kernel_rfl)
      simp only [Fact.holds] at h9
      clear hd
      simp only [h9] at hK
      have hcell := cell_chg k1 hc
      go_simp
      exact hK.out _ _ (Chg.refl _ _) rfl
    · intro u w_ hc hd K hK -- 11
      clear hd
      go_simp
      exact hK.out (.pointer (some ⟨a, 0, none⟩)) w_ (Chg.refl _ _) rfl
    · intro u w_ hc hd K hK -- 12
      have h11 : (Fact.val (.pointer (some ⟨a, 0, none⟩))).holds (u 11) w_ := hd.get 8 (by kernel_rfl)
      simp only [Fact.holds] at h11
      clear hd
      simp only [h11] at hK
      go_simp
      exact hK.out (.pointer (some ⟨a, 0, none⟩)) w_ (Chg.refl _ _) rfl
    · intro u w_ hc hd K hK -- 13
      have h12 : (Fact.val (.pointer (some ⟨a, 0, none⟩))).holds (u 12) w_ := hd.get 9 (by kernel_rfl)
      simp only [Fact.holds] at h12
      clear hd
      simp only [h12] at hK
      go_simp
      exact hK.out (.pointer (some ⟨a, 2, none⟩)) w_ (Chg.refl _ _) rfl
    · intro u w_ hc hd K hK -- 14
      have h13 : (Fact.val (.pointer (some ⟨a, 2, none⟩))).holds (u 13) w_ := hd.get 10 (by kernel_rfl)
      simp only [Fact.holds] at h13
      clear hd
      simp only [h13] at hK
      have hcell := cell_chg k2 hc
      go_simp
      exact hK.out _ _ (Chg.refl _ _) rfl
    · intro u w_ hc hd K hK -- 15
      have h14 : (Fact.val (.slice ad0 ring.length c0)).holds (u 14) w_ := hd.get 11 (by kernel_rfl)
      simp only [Fact.holds] at h14
      clear hd
      simp only [h14] at hK
      go_simp
      go_at_call 28
      refine (bclone_any B (.slice ad0 ring.length c0) ring _ (ownsRow_keep HO.out hc (fun _ _ f => f)) hrl).mono ?_
      rintro z w2 ⟨v2, rfl, ho2, c2⟩
      exact hK.out v2 w2 c2 ⟨w2, owns_base ho2 hc.size, Chg.refl _ _⟩
    · intro u w_ hc hd K hK -- 16
      have h6 : (Fact.val (.int .i64 (n : Int))).holds (u 6) w_ := hd.get 3 (by kernel_rfl)
      simp only [Fact.holds] at h6
      have h10 : (Fact.val (.int .i64 (L : Int))).holds (u 10) w_ := hd.get 7 (by kernel_rfl)
      simp only [Fact.holds] at h10
      have h15 : (Fact.is (fun q wq => wq.ownsRow w.heap.size 5 1 q ring.length (ins .u8 (nums ring)))).holds (u 15) w_ := hd.get 12 (by kernel_rfl)
      obtain ⟨q15, h15, p15⟩ := h15
      clear hd
      simp only [h6, h10] at hK
      obtain ⟨ad, c, hq⟩ := form1 h15
      rw [hq] at h15
      simp only [hq] at hK
      go_simp
      exact hK.out _ _ (Chg.refl _ _) ⟨w_, ⟨ad, c, rfl, ownsRow_keep h15 p15 (fun _ _ f => f)⟩, Chg.refl _ _⟩
    · intro u w_ hc hd K hK -- 17
      have h16 : (Fact.is (fun q wq => ∃ ad c, q = .agg #[.int .i64 (n : Int), .int .i64 (L : Int), .slice ad ring.length c] ∧ wq.ownsRow w.heap.size 5 1 (.slice ad ring.length c) ring.length (ins .u8 (nums ring)))).holds (u 16) w_ := hd.get 13 (by kernel_rfl)
      obtain ⟨q16, h16, p16⟩ := h16
      clear hd
      obtain ⟨ad, c, hq, ho⟩ := h16
      simp only [hq] at hK
      go_simp
      have c2 := chg_one w_ (.cells #[.int .i64 (n : Int), .int .i64 (L : Int), .slice ad ring.length c] 61)
      exact hK.out _ _ c2 ⟨_, ⟨w_.heap.size, .slice ad ring.length c, rfl, ⟨hc.size, by rw [HL.out]; exact heap_alloc_last _ _, ownsRow_keep (ownsRow_keep ho p16 (fun _ _ f => f)) c2 (fun _ _ f => f), HH.out.ok, HH.out.n1, HH.out.n2, HH.out.dig⟩⟩, Chg.refl _ _⟩
  · intro u w_ hc hA K hK
    have H17 := hA.at 17 (by kernel_rfl)
    obtain ⟨wq, ⟨a', v', hq, hw⟩, cq⟩ := H17
    have HF : Hid (Win w_ w.heap.size a' v' n bs) := ⟨ring, hw.new cq⟩
    have HC : Hid (Chg (fun _ => False) w w_) := hc
    clear hA hw cq hc
    go_simp
    refine hK.out _ _ ?_
    go_wp2
    go_ret
    exact ⟨a', v', rfl, HF.out, HC.out⟩
theorem wlast_any' (B a : Nat) (v : Value) (n : Nat) (bs : List Nat) (d : Int) (w : World) (h : Win w B a v n bs) (hl : bs.length ≤ 1152921504606846976) (hd : I64 d) : Calls Try.prog 14 #[.pointer (some ⟨a, 0, none⟩), .int .i64 d] w fun e w' => ((¬ Inw n bs d ∧ e = .returned (.tuple #[.int .u8 0, .int .i64 7])) ∨ (Inw n bs d ∧ e = .returned (.tuple #[.int .u8 ((backB bs d.toNat : Nat) : Int), .int .i64 0]))) ∧ Chg (fun _ => False) w w' := by
  obtain ⟨ring, h⟩ := h
  have HH : Hid _ := wholds_any d w h
  by_cases hi : Inw n bs d
  rotate_left
  · rw [decide_eq_false hi] at HH
    have HI : Hid (¬ Inw n bs d) := hi
    clear h hl hi
    go_enter Try.func14, Try.ntmps14
    go_wp2_with fail
    refine Calls.mono HH.out ?_
    rintro z w1 ⟨rfl, c1⟩
    have HC : Hid (Chg (fun _ => False) w w1) := c1
    clear c1 HH
    go_wp2
    go_ret2
    exact ⟨.inl ⟨HI.out, rfl⟩, HC.out⟩
  · rw [decide_eq_true hi] at HH
    have HI : Hid (Inw n bs d) := hi
    obtain ⟨i1, i2, i3, i4⟩ := hi.nat
    obtain ⟨D, hD⟩ : ∃ D, d.toNat = D := ⟨_, rfl⟩
    rw [hD] at i1 i2 i3 i4
    subst i4
    rw [show ((D : Int)).toNat = D from Int.toNat_natCast D]
    have hDr : D ≤ ring.length := by have := h.ok.len; omega
    have hat := h.ok.at h.n1 D i1 hDr
    have HB : Hid (∀ w1, Chg (fun _ => False) w w1 → Calls Try.prog 27 #[.pointer (some ⟨a, 0, none⟩), .int .i64 (D : Int)] w1 fun e w' => e = .returned (.int .i64 (((bs.length - D) % n : Nat) : Int)) ∧ ∃ k, w' = w1.drewN k) := fun w1 c1 => wback_any D w1 (h.new c1) hl hDr
    obtain ⟨b, hb⟩ : ∃ b, backB bs D = b := ⟨_, rfl⟩
    obtain ⟨K, hK⟩ : ∃ K, (bs.length - D) % n = K := ⟨_, rfl⟩
    rw [hb, hK] at hat
    rw [hK] at HB
    rw [hb]
    have HAT : Hid (ring[K]? = some b) := hat
    have hkl : K < ring.length := (List.getElem?_eq_some_iff.1 hat).1
    have HRW : Hid (WinR w B a v n bs ring) := h
    have hrl : ring.length ≤ 4294967295 := h.small.2.1
    clear h hat hb hK i1 i2 i3 hi hD hDr
    go_enter Try.func14, Try.ntmps14
    go_wp2_with fail
    refine Calls.mono HH.out ?_
    rintro z w1 ⟨rfl, c1⟩
    have hr1 := HRW.out.new c1
    obtain ⟨ad, c, hv⟩ := form1 hr1.own
    subst hv
    obtain ⟨_, _, k2, _⟩ := cells3 hr1.blk
    have hrow : Row8 w1 ad ring.length c (nums ring) := row8_own hr1.own
    obtain ⟨x, rfl, hcell⟩ := row8_cell hrow HAT.out
    have HC : Hid (Chg (fun _ => False) w w1) := c1
    have HQ : Hid (∀ q, Calls Try.prog 27 #[.pointer (some ⟨a, 0, none⟩), .int .i64 (D : Int)] (w1.drewN q) fun e w' => e = .returned (.int .i64 (K : Int)) ∧ ∃ m, w' = w1.drewN m) := fun q => Calls.quiet_of (HB.out _ (chg_then c1 (chg_drewN _ _)))
    clear c1 HH hr1 hrow HRW HB
    generalize ring.length = R at *
    go_wp2_with fail
    go_quiet (first | (go_at_call 27; exact HQ.out _))
    have HC2 : Hid (Chg (fun _ => False) w (w1.drewN nq)) := chg_then HC.out (chg_drewN _ _)
    go_wp2
    go_ret2
    exact ⟨.inr ⟨HI.out, rfl⟩, HC2.out⟩
end Go.Proofs.Ythgibmhbgfjkcaa
