/- The contract of the document's Fork; of no statement by itself. -/
import Derived.Test.YthhjllhcgdkjnaaRefE
import Derived.Test.YthhjllhcgdkjnaaFacts
namespace Go.Proofs.Ythhjllhcgdkjnaa
open Go.RowKit
set_option linter.unusedVariables false

set_option maxHeartbeats 1000000 in
set_option maxRecDepth 100000 in
theorem refork_any (B r : Nat) (v : Value) (ds : List Nat) (R k : Nat) (w0 : World) (h : Re w0 B r v ds R k) (hl : ds.length ≤ 140737488355328) :
    Calls Try.prog 28 #[.pointer (some ⟨r, 0, none⟩)] w0 fun e w' => ∃ r2 v2, e = .returned (.pointer (some ⟨r2, 0, none⟩)) ∧ w0.heap.size ≤ r2 ∧ Re w' w0.heap.size r2 v2 ds R k ∧ Chg (fun _ => False) w0 w' := by
  obtain ⟨k0, k1, k2, _⟩ := cells3 h.blk
  have HD : Hid (Rc.Dig ds) := h.dig
  have HH : Hid (Re w0 B r v ds R k) := h
  clear h
  go_enter Try.func28, Try.ntmps28
  go_wp2_with fail
  refine wp_region_last (mk := fun u => #[_, _, _, u 3, u 4, u 5, u 6, u 7, u 8, u 9, u 10, u 11, u 12, u 13, u 14]) (F := fun slot vv ww => (look [(3, .val (.pointer (some ⟨r, 0, none⟩))), (4, .is (fun q wq => wq.ownsRow w0.heap.size 5 1 q ds.length (ins .u8 (nums ds)))), (5, .val (.pointer (some ⟨r, 0, none⟩))), (6, .val (.pointer (some ⟨r, 0, none⟩))), (7, .val (.pointer (some ⟨r, 1, none⟩))), (8, .val (.int .u32 (R : Int))), (9, .val (.pointer (some ⟨r, 0, none⟩))), (10, .val (.pointer (some ⟨r, 0, none⟩))), (11, .val (.pointer (some ⟨r, 2, none⟩))), (12, .val (.int .i64 (k : Int))), (13, .is (fun q wq => ∃ ad cap, q = .agg #[.slice ad ds.length cap, .int .u32 (R : Int), .int .i64 (k : Int)] ∧ wq.ownsRow w0.heap.size 5 1 (.slice ad ds.length cap) ds.length (ins .u8 (nums ds)))), (14, .is (fun q wq => ∃ r2 v2, q = .pointer (some ⟨r2, 0, none⟩) ∧ w0.heap.size ≤ r2 ∧ Re wq w0.heap.size r2 v2 ds R k))] slot).holds vv ww) (fun _ => undef) rfl (by kernel_rfl) 12 _ rfl rfl (by kernel_rfl) ?_ (fun _ v w w' hc h => Fact.stays _ v w w' hc h) ?_ ?_
  · repeat (refine ⟨⟨_, rfl, fun _ _ => rfl⟩, ?_⟩)
    exact trivial
  · refine ⟨?_, ?_, ?_, ?_, ?_, ?_, ?_, ?_, ?_, ?_, ?_, ?_, trivial⟩
    · intro u w hc hd K hK -- 3
      clear hd
      go_simp
      exact hK.out (.pointer (some ⟨r, 0, none⟩)) w (Chg.refl _ _) rfl
    · intro u w hc hd K hK -- 4
      have h3 : (Fact.val (.pointer (some ⟨r, 0, none⟩))).holds (u 3) w := hd.get 0 (by kernel_rfl)
      simp only [Fact.holds] at h3
      clear hd
      simp only [h3] at hK
      go_simp
      go_at_call 26
      refine (rebytes_any B r v ds R k w (HH.out.new hc) hl).mono ?_
      rintro e w2 ⟨v2, rfl, ho, c2⟩
      exact hK.out _ _ c2 ⟨w2, owns_base ho hc.size, Chg.refl _ _⟩
    · intro u w hc hd K hK -- 5
      clear hd
      go_simp
      exact hK.out (.pointer (some ⟨r, 0, none⟩)) w (Chg.refl _ _) rfl
    · intro u w hc hd K hK -- 6
      have h5 : (Fact.val (.pointer (some ⟨r, 0, none⟩))).holds (u 5) w := hd.get 2 (by kernel_rfl)
      simp only [Fact.holds] at h5
      clear hd
      simp only [h5] at hK
      go_simp
      exact hK.out (.pointer (some ⟨r, 0, none⟩)) w (Chg.refl _ _) rfl
    · intro u w hc hd K hK -- 7
      have h6 : (Fact.val (.pointer (some ⟨r, 0, none⟩))).holds (u 6) w := hd.get 3 (by kernel_rfl)
      simp only [Fact.holds] at h6
      clear hd
      simp only [h6] at hK
      go_simp
      exact hK.out (.pointer (some ⟨r, 1, none⟩)) w (Chg.refl _ _) rfl
    · intro u w hc hd K hK -- 8
      have h7 : (Fact.val (.pointer (some ⟨r, 1, none⟩))).holds (u 7) w := hd.get 4 (by kernel_rfl)
      simp only [Fact.holds] at h7
      clear hd
      simp only [h7] at hK
      have hcell := cell_chg k1 hc
      go_simp
      exact hK.out _ _ (Chg.refl _ _) rfl
    · intro u w hc hd K hK -- 9
      clear hd
      go_simp
      exact hK.out (.pointer (some ⟨r, 0, none⟩)) w (Chg.refl _ _) rfl
    · intro u w hc hd K hK -- 10
      have h9 : (Fact.val (.pointer (some ⟨r, 0, none⟩))).holds (u 9) w := hd.get 6 (by kernel_rfl)
      simp only [Fact.holds] at h9
      clear hd
      simp only [h9] at hK
      go_simp
      exact hK.out (.pointer (some ⟨r, 0, none⟩)) w (Chg.refl _ _) rfl
    · intro u w hc hd K hK -- 11
      have h10 : (Fact.val (.pointer (some ⟨r, 0, none⟩))).holds (u 10) w := hd.get 7 (by kernel_rfl)
      simp only [Fact.holds] at h10
      clear hd
      simp only [h10] at hK
      go_simp
      exact hK.out (.pointer (some ⟨r, 2, none⟩)) w (Chg.refl _ _) rfl
    · intro u w hc hd K hK -- 12
      have h11 : (Fact.val (.pointer (some ⟨r, 2, none⟩))).holds (u 11) w := hd.get 8 (by kernel_rfl)
      simp only [Fact.holds] at h11
      clear hd
      simp only [h11] at hK
      have hcell := cell_chg k2 hc
      go_simp
      exact hK.out _ _ (Chg.refl _ _) rfl
    · intro u w hc hd K hK -- 13
      have h4 : (Fact.is (fun q wq => wq.ownsRow w0.heap.size 5 1 q ds.length (ins .u8 (nums ds)))).holds (u 4) w := hd.get 1 (by kernel_rfl)
      obtain ⟨q4, h4, p4⟩ := h4
      have h8 : (Fact.val (.int .u32 (R : Int))).holds (u 8) w := hd.get 5 (by kernel_rfl)
      simp only [Fact.holds] at h8
      have h12 : (Fact.val (.int .i64 (k : Int))).holds (u 12) w := hd.get 9 (by kernel_rfl)
      simp only [Fact.holds] at h12
      clear hd
      simp only [h8, h12] at hK
      have o4 := ownsRow_keep h4 p4 (fun _ _ f => f)
      obtain ⟨ad, cap, e4, _⟩ := own_any o4
      rw [e4] at o4
      simp only [e4] at hK
      go_simp
      exact hK.out _ w (Chg.refl _ _) ⟨w, ⟨ad, cap, rfl, o4⟩, Chg.refl _ _⟩
    · intro u w hc hd K hK -- 14
      have h13 : (Fact.is (fun q wq => ∃ ad cap, q = .agg #[.slice ad ds.length cap, .int .u32 (R : Int), .int .i64 (k : Int)] ∧ wq.ownsRow w0.heap.size 5 1 (.slice ad ds.length cap) ds.length (ins .u8 (nums ds)))).holds (u 13) w := hd.get 10 (by kernel_rfl)
      obtain ⟨q13, h13, p13⟩ := h13
      clear hd
      obtain ⟨ad, cap, e13, o13⟩ := h13
      have o14 := ownsRow_keep o13 p13 (fun _ _ f => f)
      simp only [e13] at hK
      go_simp
      have c1 := chg_one w (.cells #[.slice ad ds.length cap, .int .u32 (R : Int), .int .i64 (k : Int)] 94)
      exact hK.out _ _ c1 ⟨_, ⟨_, _, rfl, hc.size, ⟨hc.size, heap_alloc_last w _, ownsRow_keep o14 c1 (fun _ _ f => f), HD.out⟩⟩, Chg.refl _ _⟩
  · intro u w hc hA K hK
    have a14 := hA.at 14 (by kernel_rfl)
    clear hA
    obtain ⟨wq, ⟨r2, v2, e14, hr2, hR2⟩, cq⟩ : (Fact.is (fun q wq => ∃ r2 v2, q = .pointer (some ⟨r2, 0, none⟩) ∧ w0.heap.size ≤ r2 ∧ Re wq w0.heap.size r2 v2 ds R k)).holds (u 14) w := a14
    have HR : Hid (Re w w0.heap.size r2 v2 ds R k) := hR2.new cq
    have HC : Hid (Chg (fun _ => False) w0 w) := hc
    clear hR2 cq hc
    go_simp
    refine hK.out _ _ ?_
    go_simp
    go_wp2
    go_ret
    exact ⟨r2, v2, rfl, hr2, HR.out, HC.out⟩
end Go.Proofs.Ythhjllhcgdkjnaa
