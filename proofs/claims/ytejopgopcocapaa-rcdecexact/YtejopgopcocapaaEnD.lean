/- The contracts of Size and Bytes; of no statement by themselves. -/
import Derived.Test.YtejopgopcocapaaEnB
namespace Go.Proofs.Ytejopgopcocapaa
open Go.RowKit
set_option linter.unusedVariables false

theorem wr64 {p : Int} (h : 0 ≤ p) (h2 : p ≤ 4611686018427387904) : IntKind.i64.wrap p = p := by simp [IntKind.wrap, IntKind.signed, IntKind.bits]; omega

set_option maxHeartbeats 1000000 in
set_option maxRecDepth 100000 in
theorem losize_any (B a : Nat) (v : Value) (s : List Nat) (d r t R : Nat) (w0 : World) (h : En w0 B a v ⟨s, d, r, t⟩ R) (hl : s.length + r ≤ 140737488355328) :
    Calls Try.prog 58 #[.pointer (some ⟨a, 0, none⟩)] w0 fun e w' => e = .returned (.int .i64 ((s.length + r + 5 : Nat) : Int)) ∧ Chg (fun _ => False) w0 w' := by
  obtain ⟨ad, cap, hv, _⟩ := own_any h.own
  have k0 : w0.cell? ⟨a, 0, none⟩ = some v := (cells5 h.blk).1
  have k2 : w0.cell? ⟨a, 2, none⟩ = some (.int .i64 (r : Int)) := (cells5 h.blk).2.2.1
  rw [hv] at k0
  replace k0 : w0.cell? ⟨a, 0, none⟩ = some (.slice ad s.length cap) := k0
  clear h hv
  generalize s.length = n at *
  go_enter Try.func58, Try.ntmps58
  go_wp2_with fail
  refine wp_region_last (mk := fun u => #[_, _, _, u 3, u 4, u 5, u 6, u 7, u 8, u 9, u 10, u 11, u 12, u 13, u 14]) (F := fun slot vv ww => (look [(3, .val (.pointer (some ⟨a, 0, none⟩))), (4, .val (.pointer (some ⟨a, 0, none⟩))), (5, .val (.pointer (some ⟨a, 0, none⟩))), (6, .val (.slice ad n cap)), (7, .val (.int .i64 ((n : Int)))), (8, .val (.int .i64 ((n : Int) + 1))), (9, .val (.pointer (some ⟨a, 0, none⟩))), (10, .val (.pointer (some ⟨a, 0, none⟩))), (11, .val (.pointer (some ⟨a, 2, none⟩))), (12, .val (.int .i64 ((r : Int)))), (13, .val (.int .i64 ((n : Int) + 1 + (r : Int)))), (14, .val (.int .i64 ((n : Int) + 1 + (r : Int) + 4)))] slot).holds vv ww) (fun _ => undef) rfl (by kernel_rfl) 12 _ rfl rfl (by kernel_rfl) ?_ (fun _ v w w' hc h => Fact.stays _ v w w' hc h) ?_ ?_
  · repeat (refine ⟨⟨_, rfl, fun _ _ => rfl⟩, ?_⟩)
    exact trivial
  · refine ⟨?_, ?_, ?_, ?_, ?_, ?_, ?_, ?_, ?_, ?_, ?_, ?_, trivial⟩
    · intro u w hc hd K hK -- 3
      clear hd
      go_simp
      exact hK.out (.pointer (some ⟨a, 0, none⟩)) w (Chg.refl _ _) rfl
    · intro u w hc hd K hK -- 4
      have h3 : (Fact.val (.pointer (some ⟨a, 0, none⟩))).holds (u 3) w := hd.get 0 (by kernel_rfl)
      simp only [Fact.holds] at h3
      clear hd
      simp only [h3] at hK
      go_simp
      exact hK.out (.pointer (some ⟨a, 0, none⟩)) w (Chg.refl _ _) rfl
    · intro u w hc hd K hK -- 5
      have h4 : (Fact.val (.pointer (some ⟨a, 0, none⟩))).holds (u 4) w := hd.get 1 (by kernel_rfl)
      simp only [Fact.holds] at h4
      clear hd
      simp only [h4] at hK
      go_simp
      exact hK.out (.pointer (some ⟨a, 0, none⟩)) w (Chg.refl _ _) rfl
    · intro u w hc hd K hK -- 6
      have h5 : (Fact.val (.pointer (some ⟨a, 0, none⟩))).holds (u 5) w := hd.get 2 (by kernel_rfl)
      simp only [Fact.holds] at h5
      clear hd
      simp only [h5] at hK
      have hcell := cell_chg k0 hc
      go_simp
      exact hK.out _ _ (Chg.refl _ _) rfl
    · intro u w hc hd K hK -- 7
      have h6 : (Fact.val (.slice ad n cap)).holds (u 6) w := hd.get 3 (by kernel_rfl)
      simp only [Fact.holds] at h6
      clear hd
      simp only [h6] at hK
      go_simp
      exact hK.out (.int .i64 ((n : Int))) w (Chg.refl _ _) rfl
    · intro u w hc hd K hK -- 8
      have h7 : (Fact.val (.int .i64 ((n : Int)))).holds (u 7) w := hd.get 4 (by kernel_rfl)
      simp only [Fact.holds] at h7
      clear hd
      simp only [h7] at hK
      go_simp
      rw [wr64 (p := (n : Int) + 1) (by omega) (by omega)]
      exact hK.out _ _ (Chg.refl _ _) rfl
    · intro u w hc hd K hK -- 9
      clear hd
      go_simp
      exact hK.out (.pointer (some ⟨a, 0, none⟩)) w (Chg.refl _ _) rfl
    · intro u w hc hd K hK -- 10
      have h9 : (Fact.val (.pointer (some ⟨a, 0, none⟩))).holds (u 9) w := hd.get 6 (by kernel_rfl)
      simp only [Fact.holds] at h9
      clear hd
      simp only [h9] at hK
      go_simp
      exact hK.out (.pointer (some ⟨a, 0, none⟩)) w (Chg.refl _ _) rfl
    · intro u w hc hd K hK -- 11
      have h10 : (Fact.val (.pointer (some ⟨a, 0, none⟩))).holds (u 10) w := hd.get 7 (by kernel_rfl)
      simp only [Fact.holds] at h10
      clear hd
      simp only [h10] at hK
      go_simp
      exact hK.out (.pointer (some ⟨a, 2, none⟩)) w (Chg.refl _ _) rfl
    · intro u w hc hd K hK -- 12
      have h11 : (Fact.val (.pointer (some ⟨a, 2, none⟩))).holds (u 11) w := hd.get 8 (by kernel_rfl)
      simp only [Fact.holds] at h11
      clear hd
      simp only [h11] at hK
      have hcell := cell_chg k2 hc
      go_simp
      exact hK.out _ _ (Chg.refl _ _) rfl
    · intro u w hc hd K hK -- 13
      have h8 : (Fact.val (.int .i64 ((n : Int) + 1))).holds (u 8) w := hd.get 5 (by kernel_rfl)
      simp only [Fact.holds] at h8
      have h12 : (Fact.val (.int .i64 ((r : Int)))).holds (u 12) w := hd.get 9 (by kernel_rfl)
      simp only [Fact.holds] at h12
      clear hd
      simp only [h8, h12] at hK
      go_simp
      rw [wr64 (p := (n : Int) + 1 + (r : Int)) (by omega) (by omega)]
      exact hK.out _ _ (Chg.refl _ _) rfl
    · intro u w hc hd K hK -- 14
      have h13 : (Fact.val (.int .i64 ((n : Int) + 1 + (r : Int)))).holds (u 13) w := hd.get 10 (by kernel_rfl)
      simp only [Fact.holds] at h13
      clear hd
      simp only [h13] at hK
      go_simp
      rw [wr64 (p := (n : Int) + 1 + (r : Int) + 4) (by omega) (by omega)]
      exact hK.out _ _ (Chg.refl _ _) rfl
  · intro u w hc hA K hK
    have e14 : u 14 = .int .i64 ((n : Int) + 1 + (r : Int) + 4) := hA.at 14 (by kernel_rfl)
    clear hA
    have HC : Hid (Chg (fun _ => False) w0 w) := hc
    clear hc
    go_simp
    refine hK.out _ _ ?_
    go_simp
    go_wp2
    go_ret
    refine ⟨?_, HC.out⟩
    rw [show ((n + r + 5 : Nat) : Int) = (n : Int) + 1 + (r : Int) + 4 by omega]
    rfl

end Go.Proofs.Ytejopgopcocapaa
