/- What a state remembers; lists of symbols; the law's small functions; of no statement by itself. -/
import Derived.Test.YtoeimahlielklaaDoorSd
import Derived.Test.YtoeimahlielklaaDoorSq
namespace Go.Proofs.YtoeimahlielklaaDoor
open Go.RowKit
open St12
set_option linter.unusedVariables false
set_option linter.unusedSimpArgs false

namespace St12
/-- A state s behind L literals in a row, all its distances among those seen. -/
structure Rem (s : Stt) (L : Int) (seen : List Int) : Prop where
  rt : right s
  l0 : 0 ≤ L
  li : lit s.n = decide (0 < L)
  l2 : 2 ≤ L → s.n ≤ 3
  l3 : 3 ≤ L → s.n = 0
  ma : s.a ∈ seen
  mb : s.b ∈ seen
  mc : s.c ∈ seen
  md : s.d ∈ seen
theorem rem0 : Rem st0 3 [1] := ⟨by decide, by decide, by decide, fun _ => by decide, fun _ => rfl, by decide, by decide, by decide, by decide⟩
theorem nxt_eq {s : Stt} (y : Sym) (h : right s) : nxt s y = if formed y ≠ 0 then (zero, formed y) else (⟨mvd s.n y.k, (reps s y).1, (reps s y).2.1, (reps s y).2.2.1, (reps s y).2.2.2⟩, 0) := by
  unfold nxt
  rw [if_neg (not_not_intro h)]
theorem nxt_in {s : Stt} {y : Sym} (h : right s) (hf : formed y = 0) : nxt s y = (⟨mvd s.n y.k, (reps s y).1, (reps s y).2.1, (reps s y).2.2.1, (reps s y).2.2.2⟩, 0) := by
  rw [nxt_eq y h, if_neg (not_not_intro hf)]
theorem lit_of {n : Int} (h0 : 0 ≤ n) (h : n ≤ 6) : lit n = true := by unfold lit; simp; omega
theorem lit_not {n : Int} (h : 7 ≤ n) : lit n = false := by unfold lit; simp; omega
theorem rem_lit {s : Stt} {L : Int} {seen : List Int} (h : Rem s L seen) {yb yl yd : Int} : ∃ t, nxt s ⟨1, yb, yl, yd⟩ = (t, 0) ∧ Rem t (L + 1) seen ∧ t.a = s.a := by
  refine ⟨_, nxt_in h.rt (by unfold formed; simp), ?_, rfl⟩
  have hr := (nxt_right h.rt (y := ⟨1, yb, yl, yd⟩) (by unfold formed; simp)).2
  rw [nxt_in h.rt (by unfold formed; simp)] at hr
  have hn := h.rt.1
  have e : mvd s.n 1 = if s.n < 4 then 0 else if s.n < 10 then s.n - 3 else s.n - 6 := by unfold mvd; rfl
  have hli : 0 < L → s.n ≤ 6 := fun hl => by
    have := h.li
    rw [decide_eq_true hl] at this
    unfold lit at this
    simp at this
    exact this.2
  have l0 := h.l0
  have l2 := h.l2
  refine ⟨hr, by omega, ?_, fun hl => ?_, fun hl => ?_, h.ma, h.mb, h.mc, h.md⟩
  · show lit (mvd s.n 1) = _
    rw [decide_eq_true (by omega), e]
    refine lit_of ?_ ?_
    · split <;> (try split) <;> omega
    · split <;> (try split) <;> omega
  · show mvd s.n 1 ≤ 3
    have := hli (by omega)
    rw [e]
    split <;> (try split) <;> omega
  · show mvd s.n 1 = 0
    have := l2 (by omega)
    rw [e]
    split <;> (try split) <;> omega
theorem mvd_hi (n k : Int) (h : k ≠ 1) : 7 ≤ mvd n k := by
  unfold mvd
  rw [if_neg h]
  split <;> split <;> (try split) <;> omega
theorem rem_other {s t : Stt} {seen : List Int} {y : Sym} (hs : right s) (hf : formed y = 0) (hk : y.k ≠ 1) (ht : nxt s y = (t, 0)) (ha : t.a ∈ seen) (hb : t.b ∈ seen) (hc : t.c ∈ seen) (hd : t.d ∈ seen) : Rem t 0 seen := by
  have hr := (nxt_right hs hf).2
  have hn := nxt_in hs hf
  rw [ht] at hr hn
  have e : t.n = mvd s.n y.k := by injection hn with h1 _; rw [h1]
  refine ⟨hr, by omega, ?_, fun h => by omega, fun h => by omega, ha, hb, hc, hd⟩
  rw [e]
  exact lit_not (mvd_hi _ _ hk)
theorem rem_match {s : Stt} {L : Int} {seen : List Int} (h : Rem s L seen) {yb yl yd : Int} (hf : formed ⟨2, yb, yl, yd⟩ = 0) : ∃ t, nxt s ⟨2, yb, yl, yd⟩ = (t, 0) ∧ Rem t 0 (seen ++ [yd]) ∧ t.a = yd := by
  refine ⟨_, nxt_in h.rt hf, ?_, rfl⟩
  refine rem_other h.rt hf (by show (2 : Int) ≠ 1; decide) (nxt_in h.rt hf) ?_ ?_ ?_ ?_
  · show yd ∈ _; simp
  · show s.a ∈ _; have := h.ma; simp [this]
  · show s.b ∈ _; have := h.mb; simp [this]
  · show s.c ∈ _; have := h.mc; simp [this]
/-- The distance of a place. -/
def rep (s : Stt) (d : Int) : Int := if d = 1 then s.b else if d = 2 then s.c else if d = 3 then s.d else s.a
theorem rem_rep {s : Stt} {L : Int} {seen : List Int} (h : Rem s L seen) {yb yl yd : Int} (hf : formed ⟨3, yb, yl, yd⟩ = 0) : ∃ t, nxt s ⟨3, yb, yl, yd⟩ = (t, 0) ∧ Rem t 0 seen ∧ t.a = rep s yd := by
  have ha := h.ma
  have hb := h.mb
  have hc := h.mc
  have hd := h.md
  have e : reps s ⟨3, yb, yl, yd⟩ = if yd = 1 then (s.b, s.a, s.c, s.d) else if yd = 2 then (s.c, s.a, s.b, s.d) else if yd = 3 then (s.d, s.a, s.b, s.c) else (s.a, s.b, s.c, s.d) := by
    unfold reps
    rfl
  refine ⟨_, nxt_in h.rt hf, rem_other h.rt hf (by show (3 : Int) ≠ 1; decide) (nxt_in h.rt hf) ?_ ?_ ?_ ?_, ?_⟩
  all_goals
    show _
    simp only [e]
    try unfold rep
    by_cases h1 : yd = 1 <;> by_cases h2 : yd = 2 <;> by_cases h3 : yd = 3 <;> simp [h1, h2, h3, ha, hb, hc, hd]
theorem rem_short {s : Stt} {L : Int} {seen : List Int} (h : Rem s L seen) {yb yl yd : Int} : ∃ t, nxt s ⟨4, yb, yl, yd⟩ = (t, 0) ∧ Rem t 0 seen ∧ t.a = s.a := by
  have hf : formed ⟨4, yb, yl, yd⟩ = 0 := by unfold formed; simp
  exact ⟨_, nxt_in h.rt hf, rem_other h.rt hf (by show (4 : Int) ≠ 1; decide) (nxt_in h.rt hf) h.ma h.mb h.mc h.md, rfl⟩
end St12
/-- A list of symbols in memory. -/
def SymL (w : World) (a : Option Addr) (l : List Sym) : Prop := ∀ (k : Nat) (y : Sym), l[k]? = some y → y.I ∧ ∃ b off, a = some ⟨b, off, none⟩ ∧ w.cell? ⟨b, off + k * 4, none⟩ = some (.int .i64 y.k) ∧ w.cell? ⟨b, off + k * 4 + 1, none⟩ = some (.int .u8 y.y) ∧ w.cell? ⟨b, off + k * 4 + 2, none⟩ = some (.int .i64 y.l) ∧ w.cell? ⟨b, off + k * 4 + 3, none⟩ = some (.int .i64 y.d)
theorem SymL.new {w w' : World} {a : Option Addr} {l : List Sym} (h : SymL w a l) (hc : Chg (fun _ => False) w w') : SymL w' a l := fun k y hk => by
  obtain ⟨hI, b, off, e, h0, h1, h2, h3⟩ := h k y hk
  exact ⟨hI, b, off, e, cell_chg h0 hc, cell_chg h1 hc, cell_chg h2 hc, cell_chg h3 hc⟩
end Go.Proofs.YtoeimahlielklaaDoor
