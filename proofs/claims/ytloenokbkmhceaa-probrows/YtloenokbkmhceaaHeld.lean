/- The contract of held; of no statement by itself. -/
import Derived.Test.YtloenokbkmhceaaPlay
namespace Go.Proofs.Ytloenokbkmhceaa
open Go.RowKit
set_option linter.unusedVariables false

set_option maxHeartbeats 1000000 in
set_option maxRecDepth 100000 in
theorem held_any (w0 w : World) (P : Nat) (av bv : Value) (its : List It) (h : Play w0 w P av bv its) (hn : its.length ≤ 4398046510976) : Calls Try.prog 18 #[.pointer (some ⟨P, 0, none⟩)] w fun e w' => ∃ Z : Int, e = .returned (.int .i64 Z) ∧ w = w' := by
  have hp := cell1 h.pair
  obtain ⟨ad, cap, hbv, _⟩ := own_any h.rb
  have HP : Hid (Play w0 w P av bv its) := h
  clear h
  rw [hbv] at hp
  have HL : Hid (∀ k, k < its.length → ∃ g r u uad m ucap, ad = some ⟨g, 0, none⟩ ∧ its.length ≤ cap ∧ w.cell? ⟨g, k, none⟩ = some (.pointer (some ⟨r, 0, none⟩)) ∧ w.cell? ⟨r, 1, none⟩ = some u ∧ u = .slice uad m ucap ∧ m ≤ 1048576) := fun k hk => by
    obtain ⟨g, cap2, e, hc, hcell⟩ := HP.out.b_at (by omega)
    rw [hbv] at e
    simp only [Value.slice.injEq, true_and] at e
    have hG := HP.out.good k hk
    obtain ⟨uad, ucap, eu, _⟩ := own_any hG.rt.own
    exact ⟨g, _, _, uad, _, ucap, e.1, by omega, hcell k hk, cell1 hG.rt.blk, eu, hG.len⟩
  clear hbv HP
  generalize its.length = n at *
  go_enter Try.func18, Try.ntmps18
  go_wp2_with fail
  go_loop [4, 3] (fun i z => ∃ (k : Nat) (Z : Int), k ≤ n ∧ i = .int .i64 k ∧ z = .int .i64 Z ∧ 0 ≤ Z ∧ Z ≤ 1048576 * k) (fun i _ => n - (intOf i).toNat)
  case atStart => exact ⟨0, 0, by omega, rfl, rfl, by omega, by omega⟩
  case round =>
    obtain ⟨k, Z, hk, rfl, rfl, hZ0, hZ1⟩ := hrel
    by_cases hlt : k < n
    · obtain ⟨g, r, u, uad, m, ucap, rfl, hcap, c1, c2, rfl, hm⟩ := HL.out k hlt
      go_wp2
      go_round
      case rel => exact ⟨k + 1, _, by omega, by go_num, rfl, by omega, by omega⟩
      case measure => simp [intOf]; omega
    · obtain rfl : k = n := by omega
      go_wp2
      go_ret
      exact ⟨⟨Z, rfl⟩, rfl⟩
end Go.Proofs.Ytloenokbkmhceaa
