/- The document's moves; of no statement by itself. -/
import Derived.Test.YtmkiohnabbfkcaaDoorSb
namespace Go.Proofs.YtmkiohnabbfkcaaDoor
open Go.RowKit
open St12
set_option linter.unusedVariables false
set_option linter.unusedSimpArgs false

theorem cells5f {w : World} {a : Nat} {x0 x1 x2 x3 x4 : Value} {t : TypeId} (h : w.heap[a]? = some (.cells #[x0, x1, x2, x3, x4] t (0, 0))) : (w.frozen? ⟨a, 0, none⟩ = false ∧ w.frozen? ⟨a, 1, none⟩ = false ∧ w.frozen? ⟨a, 2, none⟩ = false ∧ w.frozen? ⟨a, 3, none⟩ = false ∧ w.frozen? ⟨a, 4, none⟩ = false) :=
  ⟨by simp [World.frozen?, h], by simp [World.frozen?, h], by simp [World.frozen?, h], by simp [World.frozen?, h], by simp [World.frozen?, h]⟩
/-- The distance number i. -/
def repI (s : Stt) (i : Nat) : Int := match i with | 0 => s.a | 1 => s.b | 2 => s.c | _ => s.d
theorem right_iff (s : Stt) : right s ↔ (0 ≤ s.n ∧ s.n ≤ 11) ∧ ∀ i, i < 4 → okR (repI s i) := by
  unfold right
  constructor
  · rintro ⟨h, a, b, c, d⟩
    refine ⟨h, fun i hi => ?_⟩
    rcases i with _ | _ | _ | _ | i
    · exact a
    · exact b
    · exact c
    · exact d
    · omega
  · rintro ⟨h, f⟩
    exact ⟨h, f 0 (by omega), f 1 (by omega), f 2 (by omega), f 3 (by omega)⟩
theorem rep_cell {w : World} {g : Nat} {s : Stt} {t : TypeId} (h : w.heap[g]? = some (.cells #[.int .i64 s.n, .int .i64 s.a, .int .i64 s.b, .int .i64 s.c, .int .i64 s.d] t (0, 0))) {i : Nat} (hi : i < 4) : w.cell? ⟨g, 1 + i, none⟩ = some (.int .i64 (repI s i)) := by
  rcases i with _ | _ | _ | _ | i
  · simp [World.cell?, h, repI]
  · simp [World.cell?, h, repI]
  · simp [World.cell?, h, repI]
  · simp [World.cell?, h, repI]
  · omega
end Go.Proofs.YtmkiohnabbfkcaaDoor
