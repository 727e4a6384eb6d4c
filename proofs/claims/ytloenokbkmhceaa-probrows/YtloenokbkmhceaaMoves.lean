/- The walk through ProbMoves; of no statement by itself. -/
import Derived.Test.YtloenokbkmhceaaFixed
import Derived.Test.YtloenokbkmhceaaRef
namespace Go.Proofs.Ytloenokbkmhceaa
open Go.RowKit
set_option linter.unusedVariables false

/-- A list of questions in memory. -/
def Asks (w : World) (a : Option Addr) (n : Nat) : Prop := ∀ k, k < n → ∃ b off, a = some ⟨b, off, none⟩ ∧ ∃ p t r, w.cell? ⟨b, off + k * 3, none⟩ = some (.int .i64 p) ∧ w.cell? ⟨b, off + k * 3 + 1, none⟩ = some (.int .i64 t) ∧ w.cell? ⟨b, off + k * 3 + 2, none⟩ = some (.int .u32 r) ∧ I64 p ∧ U32 r
theorem Asks.new {w w' : World} {a : Option Addr} {n : Nat} (h : Asks w a n) (hc : Chg (fun _ => False) w w') : Asks w' a n := fun k hk => by
  obtain ⟨b, off, e, p, t, r, h0, h1, h2, i0, i2⟩ := h k hk
  exact ⟨b, off, e, p, t, r, cell_chg h0 hc, cell_chg h1 hc, cell_chg h2 hc, i0, i2⟩

theorem quiet_of {P : Program} {f : FuncId} {args : Array Value} {X : Ending} {w : World} {k : Nat} (h : Calls P f args (w.drewN k) fun e w' => e = X ∧ w.drewN k = w') : Calls P f args (w.drewN k) fun e w'' => e = X ∧ ∃ m, w'' = w.drewN m :=
  h.mono fun _ _ ⟨h1, h2⟩ => ⟨h1, k, h2.symm⟩

set_option maxHeartbeats 4000000 in
set_option maxRecDepth 100000 in
theorem moves_any (a : Option Addr) (n c : Nat) (w0 : World) (hA : Asks w0 a n) (hn : n ≤ 9223372036854775807) : Calls Try.prog 5 #[.slice a n c] w0 fun e w' => e = .returned (.bool true) ∧ Chg (fun _ => False) w0 w' := by
  have HA : Hid (Asks w0 a n) := hA
  clear hA
  go_enter Try.func5, Try.ntmps5
  go_wp2_with fail
  go_loopw [3] (fun i wr => ∃ k : Nat, k ≤ n ∧ i = .int .i64 k ∧ Chg (fun _ => False) w0 wr) (fun i _ => n - (intOf i).toNat)
  case atStart => exact ⟨0, Nat.zero_le _, rfl, Chg.refl _ _⟩
  case round =>
    obtain ⟨k, hk, rfl, c1⟩ := hrel
    by_cases hlt : k < n
    · obtain ⟨b, off, ea, p, t, r, h0, h1, h2, i0, i2⟩ := (HA.out.new c1) k hlt
      subst ea
      have c2 := chg_then c1 (chg_one wr (.cells #[.int .i64 p, .int .i64 t, .int .u32 r] 39))
      have hb : (wr.alloc (.cells #[.int .i64 p, .int .i64 t, .int .u32 r] 39)).heap[wr.heap.size]? = some (.cells #[.int .i64 p, .int .i64 t, .int .u32 r] 39 (0, 0)) := heap_alloc_last wr _
      go_wp2_with fail
      clear h0 h1 h2 c1
      generalize wr.alloc (.cells #[.int .i64 p, .int .i64 t, .int .u32 r] 39) = w2 at *
      generalize wr.heap.size = g at *
      have g0 : w2.cell? ⟨g, 0, none⟩ = some (.int .i64 p) := by simp [World.cell?, hb]
      have g1 : w2.cell? ⟨g, 1, none⟩ = some (.int .i64 t) := by simp [World.cell?, hb]
      have g2 : w2.cell? ⟨g, 2, none⟩ = some (.int .u32 r) := by simp [World.cell?, hb]
      have HC : Hid (Chg (fun _ => False) w0 w2) := c2
      clear hb c2
      go_quiet (first | (go_at_call 8; exact quiet_of (next_any p t _ i0)) | (go_at_call 15; exact quiet_of (rnext_any p t _ i0)) | (go_at_call 10; exact quiet_of (bound_any r p _ i2 i0)) | (go_at_call 16; exact quiet_of (rBound_any r p _ i2 i0)) | (go_at_call 9; exact quiet_of (cost_any p t _ i0)) | (go_at_call 17; exact quiet_of (rCost_any p t _ i0)))
      have HC2 : Hid (Chg (fun _ => False) w0 (w2.drewN nq)) := chg_then HC.out (chg_drewN _ nq)
      clear g0 g1 g2 HC
      go_wp2
      go_roundw
      case rel => exact ⟨k + 1, by omega, by go_num, HC2.out⟩
      case measure => simp [intOf]; omega
    · obtain rfl : k = n := by omega
      have HC : Hid (Chg (fun _ => False) w0 wr) := c1
      clear c1
      go_wp2_with fail
      refine (fixed_any _).mono ?_
      rintro e w3 ⟨rfl, c3⟩
      go_wp2
      go_ret
      exact ⟨rfl, chg_then HC.out c3⟩
end Go.Proofs.Ytloenokbkmhceaa
