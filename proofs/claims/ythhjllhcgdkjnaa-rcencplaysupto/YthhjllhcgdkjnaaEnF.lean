/- The contracts of Clone for bytes and of Fork; of no statement by themselves. -/
import Derived.Test.YthhjllhcgdkjnaaEnG
namespace Go.Proofs.Ythhjllhcgdkjnaa
open Go.RowKit
set_option linter.unusedVariables false

theorem eq_nil8_some (x : Addr) (n c : Nat) (w : World) : (binOp .eql 29 (.slice (some x) n c) (.slice none 0 0)).run Try.prog w = .ok (.bool false) w := by kernel_rfl
theorem eq_nil8_none (w : World) : (binOp .eql 29 (.slice none 0 0) (.slice none 0 0)).run Try.prog w = .ok (.bool true) w := by kernel_rfl

set_option maxHeartbeats 1000000 in
set_option maxRecDepth 100000 in
theorem clone8_any (B : Nat) (v : Value) (xs : List Int) (w : World) (h : w.ownsRow B 5 1 v xs.length (ins .u8 xs)) (hn : xs.length ≤ 140737488355328) :
    Calls Try.prog 55 #[v] w fun e w' => ∃ v', e = .returned v' ∧ w'.ownsRow w.heap.size 5 1 v' xs.length (ins .u8 xs) ∧ Chg (fun _ => False) w w' := by
  obtain ⟨i0, hi, hz0, hz1, hz2⟩ := info_parts infoU8
  have hone := ins_one .u8 xs
  rcases h.2 with ⟨rfl, e0⟩ | ⟨g, cap, cur, rfl, _⟩
  · have hx : xs = [] := List.eq_nil_of_length_eq_zero e0
    subst hx
    have heq := eq_nil8_none w
    go_enter Try.func55, Try.ntmps55
    go_wp2
    go_ret
    exact ⟨_, rfl, World.ownsRow_nil _ _ _ _, Chg.refl _ _⟩
  · have hF := own_from h
    have c1 := chg_one w (.cells #[] 5)
    have hF1 := hF.keep c1
    have hE := own_empty w 5
    have hs : w.heap.size ≤ (w.alloc (.cells #[] 5)).heap.size := c1.size
    have heq := eq_nil8_some ⟨g, 0, none⟩ xs.length cap w
    clear h hF
    go_enter Try.func55, Try.ntmps55
    go_wp2_with (at_builtin; refine wpList_append_moved rfl _ _ 29 rfl w.heap.size 5 i0 (.int .u8 0) 1 1 Try.underlying29 hi hz0 hz1 hz2 rfl (by decide) _ 0 [] rfl (some ⟨g, 0, none⟩) xs.length cap rfl (ins .u8 xs) hE hF1 hone (by unfold maxLen; omega) (by omega) hs ?_)
    intro v2 w2 ho hg hm
    have HC : Hid (Chg (fun _ => False) w w2) := c1.grown hg (fun k e => .inr (hE.lt k e).1)
    have HO : Hid (w2.ownsRow w.heap.size 5 1 v2 xs.length (ins .u8 xs)) := by
      show World.ownsRow _ _ _ _ _ _ _
      simpa using ho
    clear ho hg hm hE hF1 c1
    go_wp2
    go_ret
    exact ⟨_, rfl, HO.out, HC.out⟩

set_option maxHeartbeats 1000000 in
set_option maxRecDepth 100000 in
theorem lofork_any (B a : Nat) (v : Value) (s : List Nat) (d r t R : Nat) (w : World) (h : En w B a v ⟨s, d, r, t⟩ R) (hl : s.length ≤ 140737488355328) :
    Calls Try.prog 40 #[.pointer (some ⟨a, 0, none⟩)] w fun e w' => ∃ v', e = .returned (.agg #[v', .int .u8 (d : Int), .int .i64 (r : Int), .int .u32 (t : Int)]) ∧ w'.ownsRow w.heap.size 5 1 v' s.length (ins .u8 (nums s)) ∧ Chg (fun _ => False) w w' := by
  obtain ⟨ad, cap, hv, _⟩ := own_any h.own
  have hv2 : v = .slice ad s.length cap := hv
  obtain ⟨k0, k1, k2, k3, _, _⟩ := cells5 h.blk
  rw [hv2] at k0
  have HH : Hid (En w B a v ⟨s, d, r, t⟩ R) := h
  have HV : Hid (v = .slice ad s.length cap) := hv2
  have c1 := chg_one w (.cells #[.slice none 0 0, .int .u8 0, .int .i64 0, .int .u32 0] 75)
  have q0 := cell_chg k0 c1
  have q1 := cell_chg k1 c1
  have q2 := cell_chg k2 c1
  have q3 := cell_chg k3 c1
  have c2 := chg_one (w.alloc (.cells #[.slice none 0 0, .int .u8 0, .int .i64 0, .int .u32 0] 75)) (.cells #[.slice ad s.length cap, .int .u8 (d : Int), .int .i64 (r : Int), .int .u32 (t : Int)] 75)
  have p0 := cell_chg q0 c2
  have HC2 : Hid (Chg (fun _ => False) w ((w.alloc (.cells #[.slice none 0 0, .int .u8 0, .int .i64 0, .int .u32 0] 75)).alloc (.cells #[.slice ad s.length cap, .int .u8 (d : Int), .int .i64 (r : Int), .int .u32 (t : Int)] 75))) := chg_then c1 c2
  have HF0 : Hid (((w.alloc (.cells #[.slice none 0 0, .int .u8 0, .int .i64 0, .int .u32 0] 75)).alloc (.cells #[.slice ad s.length cap, .int .u8 (d : Int), .int .i64 (r : Int), .int .u32 (t : Int)] 75)).heap[w.heap.size]? = some (.cells #[.slice none 0 0, .int .u8 0, .int .i64 0, .int .u32 0] 75 (0, 0))) := blk_keep (heap_alloc_last w _) c2 (fun f => f)
  have hsz : (w.alloc (.cells #[.slice none 0 0, .int .u8 0, .int .i64 0, .int .u32 0] 75)).heap.size = w.heap.size + 1 := World.size_alloc _ _
  have HF1 : Hid (((w.alloc (.cells #[.slice none 0 0, .int .u8 0, .int .i64 0, .int .u32 0] 75)).alloc (.cells #[.slice ad s.length cap, .int .u8 (d : Int), .int .i64 (r : Int), .int .u32 (t : Int)] 75)).heap[w.heap.size + 1]? = some (.cells #[.slice ad s.length cap, .int .u8 (d : Int), .int .i64 (r : Int), .int .u32 (t : Int)] 75 (0, 0))) := by
    have h5 := heap_alloc_last (w.alloc (.cells #[.slice none 0 0, .int .u8 0, .int .i64 0, .int .u32 0] 75)) (.cells #[.slice ad s.length cap, .int .u8 (d : Int), .int .i64 (r : Int), .int .u32 (t : Int)] 75)
    rw [hsz] at h5
    exact h5
  clear h hv hv2 k0 k1 k2 k3 c1 c2 hsz
  go_enter Try.func40, Try.ntmps40
  go_wp2_with fail
  have hE2 := HH.out.new HC2.out
  have hown2 := hE2.own
  rw [HV.out] at hown2
  have hl2 : (nums s).length ≤ 140737488355328 := by rw [nums_len]; exact hl
  refine (clone8_any B _ (nums s) _ (by rw [nums_len]; exact hown2) hl2).mono ?_
  rintro e w3 ⟨v3, rfl, ho3, c3⟩
  rw [nums_len] at ho3
  have C3 := chg_then HC2.out c3
  have b0 := blk_keep HF0.out c3 (fun f => f)
  have b1 := blk_keep HF1.out c3 (fun f => f)
  have HO3 : Hid (w3.ownsRow w.heap.size 5 1 v3 s.length (ins .u8 (nums s))) := owns_base ho3 HC2.out.size
  have HO3b : Hid (∀ g, v3.ownBlock = some g → w.heap.size + 2 ≤ g) := fun g e => by
    have h6 := (ho3.lt g e).1
    rw [World.size_alloc, World.size_alloc] at h6
    omega
  obtain ⟨ad3, cap3, rfl, _⟩ := own_any ho3
  have HC3 : Hid (Chg (fun _ => False) w w3) := C3
  obtain ⟨x0, x1, x2, x3⟩ := cells4 b0
  obtain ⟨y0, y1, y2, y3⟩ := cells4 b1
  have z0 : ∀ j, w3.frozen? ⟨w.heap.size, j, none⟩ = false := fun j => by simp [World.frozen?, b0]
  have z1 : ∀ j, w3.frozen? ⟨w.heap.size + 1, j, none⟩ = false := fun j => by simp [World.frozen?, b1]
  have g0 := z0 0
  have g1 := z0 1
  have g2 := z0 2
  have g3 := z0 3
  have g4 := z1 0
  have HB0 : Hid (w3.heap[w.heap.size]? = some (.cells #[.slice none 0 0, .int .u8 0, .int .i64 0, .int .u32 0] 75 (0, 0))) := b0
  have HFW : Hid (∃ F, F = w.heap.size) := ⟨_, rfl⟩
  obtain ⟨F, hF⟩ := HFW.out
  have HF : Hid (F = w.heap.size) := hF
  clear hE2 hown2 ho3 c3 C3 b0 b1 q0 q1 q2 q3 p0 HF0 HF1 HH HV HC2 z0 z1 HFW
  rw [← hF] at x0 x1 x2 x3 y0 y1 y2 y3 g0 g1 g2 g3 g4 ⊢
  clear hF
  have hne1 : F ≠ F + 1 := by omega
  have hne2 : F + 1 ≠ F := by omega
  go_wp2
  obtain ⟨W, hW⟩ : ∃ W, W = (((((w3.setCell ⟨F + 1, 0, none⟩ (.slice ad3 s.length cap3)).setCell ⟨F, 0, none⟩ (.slice ad3 s.length cap3)).setCell ⟨F, 1, none⟩ (.int .u8 (d : Int))).setCell ⟨F, 2, none⟩ (.int .i64 (r : Int))).setCell ⟨F, 3, none⟩ (.int .u32 (t : Int))) := ⟨_, rfl⟩
  have HW : Hid (W.heap[F]? = some (.cells #[.slice ad3 s.length cap3, .int .u8 (d : Int), .int .i64 (r : Int), .int .u32 (t : Int)] 75 (0, 0)) ∧ Chg (fun z => z = F ∨ z = F + 1) w3 W) := by
    have hb := HB0.out
    rw [← HF.out] at hb
    have c4 : Chg (fun z => z = F ∨ z = F + 1) w3 (w3.setCell ⟨F + 1, 0, none⟩ (.slice ad3 s.length cap3)) := (Chg.refl (fun z => z = F ∨ z = F + 1) w3).setCell (p := ⟨F + 1, 0, none⟩) (.inl (.inr rfl)) _
    have c4' : Chg (fun z => z = F + 1) w3 (w3.setCell ⟨F + 1, 0, none⟩ (.slice ad3 s.length cap3)) := (Chg.refl (fun z => z = F + 1) w3).setCell (p := ⟨F + 1, 0, none⟩) (.inl rfl) _
    have d1 := blk_keep hb c4' (by omega)
    have d2 := blk_setk (l := [.slice none 0 0, .int .u8 0, .int .i64 0, .int .u32 0]) d1 0 (.slice ad3 s.length cap3)
    have d3 := blk_setk (l := [.slice ad3 s.length cap3, .int .u8 0, .int .i64 0, .int .u32 0]) d2 1 (.int .u8 (d : Int))
    have d4 := blk_setk (l := [.slice ad3 s.length cap3, .int .u8 (d : Int), .int .i64 0, .int .u32 0]) d3 2 (.int .i64 (r : Int))
    have d5 := blk_setk (l := [.slice ad3 s.length cap3, .int .u8 (d : Int), .int .i64 (r : Int), .int .u32 0]) d4 3 (.int .u32 (t : Int))
    rw [hW]
    exact ⟨d5, (((c4.setCell (p := ⟨F, 0, none⟩) (.inl (.inl rfl)) _).setCell (p := ⟨F, 1, none⟩) (.inl (.inl rfl)) _).setCell (p := ⟨F, 2, none⟩) (.inl (.inl rfl)) _).setCell (p := ⟨F, 3, none⟩) (.inl (.inl rfl)) _⟩
  rw [← hW]
  clear hW
  refine bodyPost_ret (results_cell_row rfl _ _ F 75 _ (0, 0) _ rfl HW.out.1 Try.underlying75 rfl (by kernel_rfl)) rfl ?_
  have hF := HF.out
  refine ⟨_, rfl, ?_, HC3.out.trans HW.out.2 (fun z e => .inr (by omega))⟩
  exact ownsRow_keep HO3.out HW.out.2 (fun g e => by have := HO3b.out g e; omega)

set_option maxHeartbeats 1000000 in
set_option maxRecDepth 100000 in
theorem efork_any (B a : Nat) (v : Value) (e : Rc.E) (w0 : World) (h : Enc w0 B a v e) (hk : e.k ≤ 140737488355328) :
    Calls Try.prog 19 #[.pointer (some ⟨a, 0, none⟩)] w0 fun x w' => ∃ a' v', x = .returned (.pointer (some ⟨a', 0, none⟩)) ∧ w0.heap.size ≤ a' ∧ Enc w' w0.heap.size a' v' e ∧ Chg (fun _ => False) w0 w' := by
  obtain ⟨l, hE, hI⟩ := h
  obtain ⟨s, d, r, t⟩ := l
  have hlen : s.length + r = e.k := hI.len
  have k4 := (cells5 hE.blk).2.2.2.2.1
  have HE : Hid (En w0 B a v ⟨s, d, r, t⟩ e.R) := hE
  have HI : Hid (Rc.Is ⟨s, d, r, t⟩ e) := hI
  have hl : s.length ≤ 140737488355328 := by omega
  clear hE hI
  go_enter Try.func19, Try.ntmps19
  go_wp2_with fail
  refine wp_region_last (mk := fun u => #[_, _, _, u 3, u 4, u 5, u 6, u 7, u 8, u 9, u 10, u 11, u 12]) (F := fun slot vv ww => (look [(3, .val (.pointer (some ⟨a, 0, none⟩))), (4, .val (.pointer (some ⟨a, 0, none⟩))), (5, .val (.pointer (some ⟨a, 0, none⟩))), (6, .is (fun q wq => ∃ ad cap, q = .agg #[.slice ad s.length cap, .int .u8 (d : Int), .int .i64 (r : Int), .int .u32 (t : Int)] ∧ wq.ownsRow w0.heap.size 5 1 (.slice ad s.length cap) s.length (ins .u8 (nums s)))), (7, .val (.pointer (some ⟨a, 0, none⟩))), (8, .val (.pointer (some ⟨a, 0, none⟩))), (9, .val (.pointer (some ⟨a, 4, none⟩))), (10, .val (.int .u32 (e.R : Int))), (11, .is (fun q wq => ∃ ad cap, q = .agg #[.slice ad s.length cap, .int .u8 (d : Int), .int .i64 (r : Int), .int .u32 (t : Int), .int .u32 (e.R : Int)] ∧ wq.ownsRow w0.heap.size 5 1 (.slice ad s.length cap) s.length (ins .u8 (nums s)))), (12, .is (fun q wq => ∃ r2 v2, q = .pointer (some ⟨r2, 0, none⟩) ∧ w0.heap.size ≤ r2 ∧ En wq w0.heap.size r2 v2 ⟨s, d, r, t⟩ e.R))] slot).holds vv ww) (fun _ => undef) rfl (by kernel_rfl) 10 _ rfl rfl (by kernel_rfl) ?_ (fun _ v w w' hc h => Fact.stays _ v w w' hc h) ?_ ?_
  · repeat (refine ⟨⟨_, rfl, fun _ _ => rfl⟩, ?_⟩)
    exact trivial
  · refine ⟨?_, ?_, ?_, ?_, ?_, ?_, ?_, ?_, ?_, ?_, trivial⟩
    · intro u w hc hd K hK -- 3
      clear hd
      go_simp
      exact hK.out (.pointer (some ⟨a, 0, none⟩)) w (Chg.refl _ _) rfl
    · intro u w hc hd K hK -- 4
      have h3 : (Fact.val (.pointer (some ⟨a, 0, none⟩))).holds (u 3) w := hd.get 0 (by kernel_rfl)
      simp only [Fact.holds] at h3
      clear hd
      simp only [h3] at hK
      go_simp
      exact hK.out (.pointer (some ⟨a, 0, none⟩)) w (Chg.refl _ _) rfl
    · intro u w hc hd K hK -- 5
      have h4 : (Fact.val (.pointer (some ⟨a, 0, none⟩))).holds (u 4) w := hd.get 1 (by kernel_rfl)
      simp only [Fact.holds] at h4
      clear hd
      simp only [h4] at hK
      go_simp
      exact hK.out (.pointer (some ⟨a, 0, none⟩)) w (Chg.refl _ _) rfl
    · intro u w hc hd K hK -- 6
      have h5 : (Fact.val (.pointer (some ⟨a, 0, none⟩))).holds (u 5) w := hd.get 2 (by kernel_rfl)
      simp only [Fact.holds] at h5
      clear hd
      simp only [h5] at hK
      go_simp
      go_at_call 40
      refine (lofork_any B a v s d r t e.R w (HE.out.new hc) hl).mono ?_
      rintro e2 w2 ⟨v2, rfl, ho, c2⟩
      obtain ⟨ad, cap, rfl, _⟩ := own_any ho
      exact hK.out _ _ c2 ⟨w2, ⟨ad, cap, rfl, owns_base ho hc.size⟩, Chg.refl _ _⟩
    · intro u w hc hd K hK -- 7
      clear hd
      go_simp
      exact hK.out (.pointer (some ⟨a, 0, none⟩)) w (Chg.refl _ _) rfl
    · intro u w hc hd K hK -- 8
      have h7 : (Fact.val (.pointer (some ⟨a, 0, none⟩))).holds (u 7) w := hd.get 4 (by kernel_rfl)
      simp only [Fact.holds] at h7
      clear hd
      simp only [h7] at hK
      go_simp
      exact hK.out (.pointer (some ⟨a, 0, none⟩)) w (Chg.refl _ _) rfl
    · intro u w hc hd K hK -- 9
      have h8 : (Fact.val (.pointer (some ⟨a, 0, none⟩))).holds (u 8) w := hd.get 5 (by kernel_rfl)
      simp only [Fact.holds] at h8
      clear hd
      simp only [h8] at hK
      go_simp
      exact hK.out (.pointer (some ⟨a, 4, none⟩)) w (Chg.refl _ _) rfl
    · intro u w hc hd K hK -- 10
      have h9 : (Fact.val (.pointer (some ⟨a, 4, none⟩))).holds (u 9) w := hd.get 6 (by kernel_rfl)
      simp only [Fact.holds] at h9
      clear hd
      simp only [h9] at hK
      have hcell := cell_chg k4 hc
      go_simp
      exact hK.out _ _ (Chg.refl _ _) rfl
    · intro u w hc hd K hK -- 11
      have h6 : (Fact.is (fun q wq => ∃ ad cap, q = .agg #[.slice ad s.length cap, .int .u8 (d : Int), .int .i64 (r : Int), .int .u32 (t : Int)] ∧ wq.ownsRow w0.heap.size 5 1 (.slice ad s.length cap) s.length (ins .u8 (nums s)))).holds (u 6) w := hd.get 3 (by kernel_rfl)
      obtain ⟨q6, h6, p6⟩ := h6
      have h10 : (Fact.val (.int .u32 (e.R : Int))).holds (u 10) w := hd.get 7 (by kernel_rfl)
      simp only [Fact.holds] at h10
      clear hd
      simp only [h10] at hK
      obtain ⟨ad, cap, e6, o6⟩ := h6
      have o6' := ownsRow_keep o6 p6 (fun _ _ f => f)
      simp only [e6] at hK
      go_simp
      exact hK.out _ w (Chg.refl _ _) ⟨w, ⟨ad, cap, rfl, o6'⟩, Chg.refl _ _⟩
    · intro u w hc hd K hK -- 12
      have h11 : (Fact.is (fun q wq => ∃ ad cap, q = .agg #[.slice ad s.length cap, .int .u8 (d : Int), .int .i64 (r : Int), .int .u32 (t : Int), .int .u32 (e.R : Int)] ∧ wq.ownsRow w0.heap.size 5 1 (.slice ad s.length cap) s.length (ins .u8 (nums s)))).holds (u 11) w := hd.get 8 (by kernel_rfl)
      obtain ⟨q11, h11, p11⟩ := h11
      clear hd
      obtain ⟨ad, cap, e11, o11⟩ := h11
      have o12 := ownsRow_keep o11 p11 (fun _ _ f => f)
      simp only [e11] at hK
      go_simp
      have c1 := chg_one w (.cells #[.slice ad s.length cap, .int .u8 (d : Int), .int .i64 (r : Int), .int .u32 (t : Int), .int .u32 (e.R : Int)] 77)
      exact hK.out _ _ c1 ⟨_, ⟨_, _, rfl, hc.size, ⟨hc.size, heap_alloc_last w _, ownsRow_keep o12 c1 (fun _ _ f => f)⟩⟩, Chg.refl _ _⟩
  · intro u w hc hA K hK
    have a12 := hA.at 12 (by kernel_rfl)
    clear hA
    obtain ⟨wq, ⟨r2, v2, e12, hr2, hR2⟩, cq⟩ : (Fact.is (fun q wq => ∃ r2 v2, q = .pointer (some ⟨r2, 0, none⟩) ∧ w0.heap.size ≤ r2 ∧ En wq w0.heap.size r2 v2 ⟨s, d, r, t⟩ e.R)).holds (u 12) w := a12
    have HR : Hid (En w w0.heap.size r2 v2 ⟨s, d, r, t⟩ e.R) := hR2.new cq
    have HC : Hid (Chg (fun _ => False) w0 w) := hc
    clear hR2 cq hc
    go_simp
    refine hK.out _ _ ?_
    go_simp
    go_wp2
    go_ret
    exact ⟨r2, v2, rfl, hr2, ⟨_, HR.out, HI.out⟩, HC.out⟩
end Go.Proofs.Ythhjllhcgdkjnaa
