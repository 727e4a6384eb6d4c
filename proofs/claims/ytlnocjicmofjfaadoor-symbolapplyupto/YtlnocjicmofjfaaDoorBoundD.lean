/- Several texts in one, none of a statement by itself: Sv, Sa, Sb, Sc, Sd, Sq, Sj, Sn. -/
import Derived.Test.YtlnocjicmofjfaaDoorBoundB
import Derived.Test.YtlnocjicmofjfaaDoorBoundA
import Derived.BigQuiet
import Derived.Laws.StructEq
import Derived.Deep.QuietTactic
import Derived.Deep.DeepCutAuto
/- What is asked of the program's states ('StSpec'), and the answers that the document fixes; of no statement by itself. -/
namespace Go.Proofs.YtlnocjicmofjfaaDoor
open Go.RowKit
open St12
set_option linter.unusedVariables false
set_option linter.unusedSimpArgs false

def stv (s : Stt) : Value := .agg #[.int .i64 s.n, .int .i64 s.a, .int .i64 s.b, .int .i64 s.c, .int .i64 s.d]
def syv (y : Sym) : Value := .agg #[.int .i64 y.k, .int .u8 y.y, .int .i64 y.l, .int .i64 y.d]
def prv (p : Prp) : Value := .agg #[.int .i64 p.lc, .int .i64 p.lp, .int .i64 p.pb]
structure Stt.I (s : Stt) : Prop where
  n : I64 s.n
  a : I64 s.a
  b : I64 s.b
  c : I64 s.c
  d : I64 s.d
structure Sym.I (y : Sym) : Prop where
  k : I64 y.k
  l : I64 y.l
  d : I64 y.d
  y : 0 ≤ y.y ∧ y.y ≤ 255
structure Prp.I (p : Prp) : Prop where
  lc : I64 p.lc
  lp : I64 p.lp
  pb : I64 p.pb
structure StSpec (Tab : World → Prop) : Prop where
  keep : ∀ {w w'}, Tab w → Chg (fun _ => False) w w' → Tab w'
  new : ∀ w, Tab w → Calls Tryd.prog 11 #[] w fun e w' => e = .returned (stv st0) ∧ Chg (fun _ => False) w w'
  next : ∀ (s : Stt) (y : Sym) w, Tab w → s.I → y.I → Calls Tryd.prog 12 #[stv s, syv y] w fun e w' => e = .returned (.tuple #[stv (nxt s y).1, .int .i64 (nxt s y).2]) ∧ Chg (fun _ => False) w w'
theorem nxt_fix : nxt st0 ⟨2, 0, 5, 9⟩ = (⟨7, 9, 1, 1, 1⟩, 0) := by kernel_rfl
theorem slot_fix : slotA 13 = (7, 0) := by decide +kernel
theorem byte_fix : byteP ⟨3, 0, 2⟩ = (93, 0) := by decide +kernel
theorem cells5 {w : World} {a : Nat} {x y z u v : Value} {t : TypeId} (h : w.heap[a]? = some (.cells #[x, y, z, u, v] t (0, 0))) : w.cell? ⟨a, 0, none⟩ = some x ∧ w.cell? ⟨a, 1, none⟩ = some y ∧ w.cell? ⟨a, 2, none⟩ = some z ∧ w.cell? ⟨a, 3, none⟩ = some u ∧ w.cell? ⟨a, 4, none⟩ = some v :=
  ⟨by simp [World.cell?, h], by simp [World.cell?, h], by simp [World.cell?, h], by simp [World.cell?, h], by simp [World.cell?, h]⟩
end Go.Proofs.YtlnocjicmofjfaaDoor

/- The document's states; of no statement by itself. -/
namespace Go.Proofs.YtlnocjicmofjfaaDoor
open Go.RowKit
open St12
set_option linter.unusedVariables false
set_option linter.unusedSimpArgs false

theorem pow_int (k : Nat) : (2 : Int) ^ k = ((2 ^ k : Nat) : Int) := by simp
end Go.Proofs.YtlnocjicmofjfaaDoor

/- The document's properties; of no statement by itself. -/
namespace Go.Proofs.YtlnocjicmofjfaaDoor
open Go.RowKit
open St12
set_option linter.unusedVariables false
set_option linter.unusedSimpArgs false

theorem cells3s {w : World} {a : Nat} {x y z : Value} {t : TypeId} (h : w.heap[a]? = some (.cells #[x, y, z] t (0, 0))) : w.cell? ⟨a, 0, none⟩ = some x ∧ w.cell? ⟨a, 1, none⟩ = some y ∧ w.cell? ⟨a, 2, none⟩ = some z ∧ w.frozen? ⟨a, 0, none⟩ = false ∧ w.frozen? ⟨a, 1, none⟩ = false ∧ w.frozen? ⟨a, 2, none⟩ = false :=
  ⟨by simp [World.cell?, h], by simp [World.cell?, h], by simp [World.cell?, h], by simp [World.frozen?, h], by simp [World.frozen?, h], by simp [World.frozen?, h]⟩
theorem set_blk {w : World} {g i : Nat} {cs : Array Value} {t : TypeId} (u : Value) (h : w.heap[g]? = some (.cells cs t (0, 0))) : (w.setCell ⟨g, i, none⟩ u).heap[g]? = some (.cells (cs.setIfInBounds i u) t (0, 0)) := by
  have hlt := lt_of_blk h
  have h' : w.heap[g] = .cells cs t (0, 0) := by simpa [Array.getElem?_eq_getElem hlt] using h
  show (w.heap.modify g _)[g]? = _
  rw [Array.getElem?_eq_getElem (by simpa using hlt), Array.getElem_modify_self, h']
  rfl
/-- A store of three cells. -/
theorem store3 {W : World} {g : Nat} {x y z : Value} {t : TypeId} (h : W.heap[g]? = some (.cells #[x, y, z] t (0, 0))) (a b c : Value) : (W.cell? ⟨g, 0, none⟩ = some x ∧ W.frozen? ⟨g, 0, none⟩ = false) ∧ ((W.setCell ⟨g, 0, none⟩ a).cell? ⟨g, 1, none⟩ = some y ∧ (W.setCell ⟨g, 0, none⟩ a).frozen? ⟨g, 1, none⟩ = false) ∧ (((W.setCell ⟨g, 0, none⟩ a).setCell ⟨g, 1, none⟩ b).cell? ⟨g, 2, none⟩ = some z ∧ ((W.setCell ⟨g, 0, none⟩ a).setCell ⟨g, 1, none⟩ b).frozen? ⟨g, 2, none⟩ = false) ∧
    ((((W.setCell ⟨g, 0, none⟩ a).setCell ⟨g, 1, none⟩ b).setCell ⟨g, 2, none⟩ c).heap[g]? = some (.cells #[a, b, c] t (0, 0)) ∧ Chg (fun q => q = g) W (((W.setCell ⟨g, 0, none⟩ a).setCell ⟨g, 1, none⟩ b).setCell ⟨g, 2, none⟩ c)) := by
  have h1 : (W.setCell ⟨g, 0, none⟩ a).heap[g]? = some (.cells #[a, y, z] t (0, 0)) := set_blk a h
  have h2 : ((W.setCell ⟨g, 0, none⟩ a).setCell ⟨g, 1, none⟩ b).heap[g]? = some (.cells #[a, b, z] t (0, 0)) := set_blk b h1
  have h3 : (((W.setCell ⟨g, 0, none⟩ a).setCell ⟨g, 1, none⟩ b).setCell ⟨g, 2, none⟩ c).heap[g]? = some (.cells #[a, b, c] t (0, 0)) := set_blk c h2
  have k0 := cells3s h
  have k1 := cells3s h1
  have k2 := cells3s h2
  exact ⟨⟨k0.1, k0.2.2.2.1⟩, ⟨k1.2.1, k1.2.2.2.2.1⟩, ⟨k2.2.2.1, k2.2.2.2.2.2⟩, h3, (((Chg.refl (fun q => q = g) W).setCell (p := ⟨g, 0, none⟩) (.inl rfl) a).setCell (p := ⟨g, 1, none⟩) (.inl rfl) b).setCell (p := ⟨g, 2, none⟩) (.inl rfl) c⟩
theorem byteP_nat (p q r : Nat) (h : r + q ≤ 4) (hp : p ≤ 4) : byteP ⟨(r : Int), (q : Int), (p : Int)⟩ = ((((5 * p + q) * 9 + r : Nat) : Int), 0) := by
  unfold byteP
  rw [if_pos (by unfold allow; simp only; omega)]
  congr 1
/-- None of those that were tried has the byte. -/
def None3 (b : Int) (P Q R : Nat) : Prop := ∀ p : Prp, allow p → (p.pb < P ∨ (p.pb = P ∧ (p.lp < Q ∨ (p.lp = Q ∧ p.lc < R)))) → (5 * p.pb + p.lp) * 9 + p.lc ≠ b
theorem propsB_found {b : Int} {p : Prp} (h : allow p) (hb : (5 * p.pb + p.lp) * 9 + p.lc = b) : propsB b = (p, 0) := by
  have ht := told_of h
  rw [hb] at ht
  have hh := h
  obtain ⟨⟨h1, h2, h3⟩, h4, h5⟩ := hh
  unfold propsB
  rw [if_neg (by omega), ht, if_pos h]
theorem propsB_none {b : Int} (hb : 0 ≤ b ∧ b ≤ 255) (h : None3 b 5 0 0) : propsB b = (⟨0, 0, 0⟩, 2) := by
  unfold propsB
  rw [if_neg (by simpa using hb), if_neg]
  intro ha
  have hh := ha
  obtain ⟨⟨h1, h2, h3⟩, h4, h5⟩ := hh
  refine h (told b) ha (.inl (by show _ < ((5 : Nat) : Int); omega)) ?_
  refine of_told b ⟨hb.1, ?_⟩
  have : (told b).pb = b / 45 := rfl
  omega
end Go.Proofs.YtlnocjicmofjfaaDoor

/- The document's moves; of no statement by itself. -/
namespace Go.Proofs.YtlnocjicmofjfaaDoor
open Go.RowKit
open St12
set_option linter.unusedVariables false
set_option linter.unusedSimpArgs false

set_option maxHeartbeats 4000000 in
theorem rformed_q (k y l d : Int) (i1 : I64 k) (i2 : I64 l) (i3 : I64 d) (w : World) : Calls Tryd.prog 54 #[.agg #[.int .i64 k, .int .u8 y, .int .i64 l, .int .i64 d]] w fun e w' => e = .returned (.int .i64 (formed ⟨k, y, l, d⟩)) ∧ Chg (fun _ => False) w w' := by
  by_cases h1 : k = 1
  · subst h1
    by_cases c0 : 2 ≤ l
    · have d0 : decide (2 ≤ l) = true := decide_eq_true c0
      by_cases c1 : l ≤ 273
      · have d1 : decide (l ≤ 273) = true := decide_eq_true c1
        have hF : formed ⟨1, y, l, d⟩ = 0 := by unfold formed; simp only; simp
        rw [hF]
        clear hF
        go_enter Tryd.func54, Tryd.ntmps54
        go_wp2
        go_ret
        exact ⟨rfl, chg_one _ _⟩
      · have d1 : decide (l ≤ 273) = false := decide_eq_false c1
        have hF : formed ⟨1, y, l, d⟩ = 0 := by unfold formed; simp only; simp
        rw [hF]
        clear hF
        go_enter Tryd.func54, Tryd.ntmps54
        go_wp2
        go_ret
        exact ⟨rfl, chg_one _ _⟩
    · have d0 : decide (2 ≤ l) = false := decide_eq_false c0
      have hF : formed ⟨1, y, l, d⟩ = 0 := by unfold formed; simp only; simp
      rw [hF]
      clear hF
      go_enter Tryd.func54, Tryd.ntmps54
      go_wp2
      go_ret
      exact ⟨rfl, chg_one _ _⟩
  · have e1 : (k == 1) = false := by rw [beq_eq_false_iff_ne]; exact h1
    have g1 : decide (k = 1) = false := decide_eq_false h1
    by_cases h4 : k = 4
    · subst h4
      by_cases c0 : 2 ≤ l
      · have d0 : decide (2 ≤ l) = true := decide_eq_true c0
        by_cases c1 : l ≤ 273
        · have d1 : decide (l ≤ 273) = true := decide_eq_true c1
          have hF : formed ⟨4, y, l, d⟩ = 0 := by unfold formed; simp only; simp
          rw [hF]
          clear hF
          go_enter Tryd.func54, Tryd.ntmps54
          go_wp2
          go_ret
          exact ⟨rfl, chg_one _ _⟩
        · have d1 : decide (l ≤ 273) = false := decide_eq_false c1
          have hF : formed ⟨4, y, l, d⟩ = 0 := by unfold formed; simp only; simp
          rw [hF]
          clear hF
          go_enter Tryd.func54, Tryd.ntmps54
          go_wp2
          go_ret
          exact ⟨rfl, chg_one _ _⟩
      · have d0 : decide (2 ≤ l) = false := decide_eq_false c0
        have hF : formed ⟨4, y, l, d⟩ = 0 := by unfold formed; simp only; simp
        rw [hF]
        clear hF
        go_enter Tryd.func54, Tryd.ntmps54
        go_wp2
        go_ret
        exact ⟨rfl, chg_one _ _⟩
    · have e4 : (k == 4) = false := by rw [beq_eq_false_iff_ne]; exact h4
      have g4 : decide (k = 4) = false := decide_eq_false h4
      by_cases h2 : k = 2
      · subst h2
        by_cases c0 : 2 ≤ l
        · have d0 : decide (2 ≤ l) = true := decide_eq_true c0
          by_cases c1 : l ≤ 273
          · have d1 : decide (l ≤ 273) = true := decide_eq_true c1
            by_cases c10 : 1 ≤ d
            · have d10 : decide (d < 1) = false := decide_eq_false (by omega)
              by_cases c11 : d ≤ 4294967295
              · have d11 : decide (4294967295 < d) = false := decide_eq_false (by omega)
                have hF : formed ⟨2, y, l, d⟩ = 0 := by unfold formed; simp only; rw [if_neg (by omega), if_pos trivial, if_pos (by omega)]
                rw [hF]
                clear hF
                go_enter Tryd.func54, Tryd.ntmps54
                go_wp2
                go_ret
                exact ⟨rfl, chg_one _ _⟩
              · have d11 : decide (4294967295 < d) = true := decide_eq_true (by omega)
                have hF : formed ⟨2, y, l, d⟩ = 7 := by unfold formed; simp only; rw [if_neg (by omega), if_pos trivial, if_neg (by omega)]
                rw [hF]
                clear hF
                go_enter Tryd.func54, Tryd.ntmps54
                go_wp2
                go_ret
                exact ⟨rfl, chg_one _ _⟩
            · have d10 : decide (d < 1) = true := decide_eq_true (by omega)
              have hF : formed ⟨2, y, l, d⟩ = 7 := by unfold formed; simp only; rw [if_neg (by omega), if_pos trivial, if_neg (by omega)]
              rw [hF]
              clear hF
              go_enter Tryd.func54, Tryd.ntmps54
              go_wp2
              go_ret
              exact ⟨rfl, chg_one _ _⟩
          · have d1 : decide (l ≤ 273) = false := decide_eq_false c1
            have hF : formed ⟨2, y, l, d⟩ = 7 := by unfold formed; simp only; rw [if_neg (by omega), if_pos trivial, if_neg (by omega)]
            rw [hF]
            clear hF
            go_enter Tryd.func54, Tryd.ntmps54
            go_wp2
            go_ret
            exact ⟨rfl, chg_one _ _⟩
        · have d0 : decide (2 ≤ l) = false := decide_eq_false c0
          have hF : formed ⟨2, y, l, d⟩ = 7 := by unfold formed; simp only; rw [if_neg (by omega), if_pos trivial, if_neg (by omega)]
          rw [hF]
          clear hF
          go_enter Tryd.func54, Tryd.ntmps54
          go_wp2
          go_ret
          exact ⟨rfl, chg_one _ _⟩
      · have e2 : (k == 2) = false := by rw [beq_eq_false_iff_ne]; exact h2
        have g2 : decide (k = 2) = false := decide_eq_false h2
        by_cases h3 : k = 3
        · subst h3
          by_cases c0 : 2 ≤ l
          · have d0 : decide (2 ≤ l) = true := decide_eq_true c0
            by_cases c1 : l ≤ 273
            · have d1 : decide (l ≤ 273) = true := decide_eq_true c1
              by_cases c10 : 0 ≤ d
              · have d10 : decide (d < 0) = false := decide_eq_false (by omega)
                by_cases c11 : d ≤ 3
                · have d11 : decide (3 < d) = false := decide_eq_false (by omega)
                  have hF : formed ⟨3, y, l, d⟩ = 0 := by unfold formed; simp only; rw [if_neg (by omega), if_neg (by omega), if_pos trivial, if_pos (by omega)]
                  rw [hF]
                  clear hF
                  go_enter Tryd.func54, Tryd.ntmps54
                  go_wp2
                  go_ret
                  exact ⟨rfl, chg_one _ _⟩
                · have d11 : decide (3 < d) = true := decide_eq_true (by omega)
                  have hF : formed ⟨3, y, l, d⟩ = 7 := by unfold formed; simp only; rw [if_neg (by omega), if_neg (by omega), if_pos trivial, if_neg (by omega)]
                  rw [hF]
                  clear hF
                  go_enter Tryd.func54, Tryd.ntmps54
                  go_wp2
                  go_ret
                  exact ⟨rfl, chg_one _ _⟩
              · have d10 : decide (d < 0) = true := decide_eq_true (by omega)
                have hF : formed ⟨3, y, l, d⟩ = 7 := by unfold formed; simp only; rw [if_neg (by omega), if_neg (by omega), if_pos trivial, if_neg (by omega)]
                rw [hF]
                clear hF
                go_enter Tryd.func54, Tryd.ntmps54
                go_wp2
                go_ret
                exact ⟨rfl, chg_one _ _⟩
            · have d1 : decide (l ≤ 273) = false := decide_eq_false c1
              have hF : formed ⟨3, y, l, d⟩ = 7 := by unfold formed; simp only; rw [if_neg (by omega), if_neg (by omega), if_pos trivial, if_neg (by omega)]
              rw [hF]
              clear hF
              go_enter Tryd.func54, Tryd.ntmps54
              go_wp2
              go_ret
              exact ⟨rfl, chg_one _ _⟩
          · have d0 : decide (2 ≤ l) = false := decide_eq_false c0
            have hF : formed ⟨3, y, l, d⟩ = 7 := by unfold formed; simp only; rw [if_neg (by omega), if_neg (by omega), if_pos trivial, if_neg (by omega)]
            rw [hF]
            clear hF
            go_enter Tryd.func54, Tryd.ntmps54
            go_wp2
            go_ret
            exact ⟨rfl, chg_one _ _⟩
        · have e3 : (k == 3) = false := by rw [beq_eq_false_iff_ne]; exact h3
          have g3 : decide (k = 3) = false := decide_eq_false h3
          by_cases c0 : 2 ≤ l
          · have d0 : decide (2 ≤ l) = true := decide_eq_true c0
            by_cases c1 : l ≤ 273
            · have d1 : decide (l ≤ 273) = true := decide_eq_true c1
              have hF : formed ⟨k, y, l, d⟩ = 6 := by unfold formed; simp only; rw [if_neg (by omega), if_neg (by omega), if_neg (by omega)]
              rw [hF]
              clear hF
              go_enter Tryd.func54, Tryd.ntmps54
              go_wp2
              go_ret
              exact ⟨rfl, chg_one _ _⟩
            · have d1 : decide (l ≤ 273) = false := decide_eq_false c1
              have hF : formed ⟨k, y, l, d⟩ = 6 := by unfold formed; simp only; rw [if_neg (by omega), if_neg (by omega), if_neg (by omega)]
              rw [hF]
              clear hF
              go_enter Tryd.func54, Tryd.ntmps54
              go_wp2
              go_ret
              exact ⟨rfl, chg_one _ _⟩
          · have d0 : decide (2 ≤ l) = false := decide_eq_false c0
            have hF : formed ⟨k, y, l, d⟩ = 6 := by unfold formed; simp only; rw [if_neg (by omega), if_neg (by omega), if_neg (by omega)]
            rw [hF]
            clear hF
            go_enter Tryd.func54, Tryd.ntmps54
            go_wp2
            go_ret
            exact ⟨rfl, chg_one _ _⟩
set_option maxHeartbeats 4000000 in
theorem moved_q (n k : Int) (hn : 0 ≤ n ∧ n ≤ 11) (i2 : I64 k) (w : World) : Calls Tryd.prog 60 #[.int .i64 n, .int .i64 k] w fun e w' => e = .returned (.int .i64 (mvd n k)) ∧ w' = w := by
  obtain ⟨n1, n2⟩ := hn
  by_cases h1 : k = 1
  · subst h1
    by_cases c4 : n < 4
    · have d4 : decide (n < 4) = true := decide_eq_true c4
      have hF : mvd n 1 = 0 := by unfold mvd; rw [if_pos rfl, if_pos c4]
      rw [hF]
      clear hF
      go_enter Tryd.func60, Tryd.ntmps60
      go_wp2
      go_ret
      exact ⟨rfl, rfl⟩
    · have d4 : decide (n < 4) = false := decide_eq_false c4
      by_cases c10 : n < 10
      · have d10 : decide (n < 10) = true := decide_eq_true c10
        have hF : mvd n 1 = n - 3 := by unfold mvd; rw [if_pos rfl, if_neg c4, if_pos c10]
        rw [hF]
        clear hF
        go_enter Tryd.func60, Tryd.ntmps60
        go_wp2
        go_ret
        exact ⟨rfl, rfl⟩
      · have d10 : decide (n < 10) = false := decide_eq_false c10
        have hF : mvd n 1 = n - 6 := by unfold mvd; rw [if_pos rfl, if_neg c4, if_neg c10]
        rw [hF]
        clear hF
        go_enter Tryd.func60, Tryd.ntmps60
        go_wp2
        go_ret
        exact ⟨rfl, rfl⟩
  · have e1 : (k == 1) = false := by rw [beq_eq_false_iff_ne]; exact h1
    have g1 : decide (k = 1) = false := decide_eq_false h1
    by_cases h4 : k = 4
    · subst h4
      by_cases c7 : 7 ≤ n
      · have d7 : decide (7 ≤ n) = true := decide_eq_true c7
        have hF : mvd n 4 = 11 := by unfold mvd; rw [if_neg (by decide), if_pos c7, if_neg (by decide)]
        rw [hF]
        clear hF
        go_enter Tryd.func60, Tryd.ntmps60
        go_wp2
        go_ret
        exact ⟨rfl, rfl⟩
      · have d7 : decide (7 ≤ n) = false := decide_eq_false c7
        have hF : mvd n 4 = 9 := by unfold mvd; rw [if_neg (by decide), if_neg c7, if_neg (by decide), if_neg (by decide)]
        rw [hF]
        clear hF
        go_enter Tryd.func60, Tryd.ntmps60
        go_wp2
        go_ret
        exact ⟨rfl, rfl⟩
    · have e4 : (k == 4) = false := by rw [beq_eq_false_iff_ne]; exact h4
      have g4 : decide (k = 4) = false := decide_eq_false h4
      by_cases h2 : k = 2
      · subst h2
        by_cases c7 : 7 ≤ n
        · have d7 : decide (7 ≤ n) = true := decide_eq_true c7
          have hF : mvd n 2 = 10 := by unfold mvd; rw [if_neg (by decide), if_pos c7, if_pos rfl]
          rw [hF]
          clear hF
          go_enter Tryd.func60, Tryd.ntmps60
          go_wp2
          go_ret
          exact ⟨rfl, rfl⟩
        · have d7 : decide (7 ≤ n) = false := decide_eq_false c7
          have hF : mvd n 2 = 7 := by unfold mvd; rw [if_neg (by decide), if_neg c7, if_pos rfl]
          rw [hF]
          clear hF
          go_enter Tryd.func60, Tryd.ntmps60
          go_wp2
          go_ret
          exact ⟨rfl, rfl⟩
      · have e2 : (k == 2) = false := by rw [beq_eq_false_iff_ne]; exact h2
        have g2 : decide (k = 2) = false := decide_eq_false h2
        by_cases h3 : k = 3
        · subst h3
          by_cases c7 : 7 ≤ n
          · have d7 : decide (7 ≤ n) = true := decide_eq_true c7
            have hF : mvd n 3 = 11 := by unfold mvd; rw [if_neg (by decide), if_pos c7, if_neg (by decide)]
            rw [hF]
            clear hF
            go_enter Tryd.func60, Tryd.ntmps60
            go_wp2
            go_ret
            exact ⟨rfl, rfl⟩
          · have d7 : decide (7 ≤ n) = false := decide_eq_false c7
            have hF : mvd n 3 = 8 := by unfold mvd; rw [if_neg (by decide), if_neg c7, if_neg (by decide), if_pos rfl]
            rw [hF]
            clear hF
            go_enter Tryd.func60, Tryd.ntmps60
            go_wp2
            go_ret
            exact ⟨rfl, rfl⟩
        · have e3 : (k == 3) = false := by rw [beq_eq_false_iff_ne]; exact h3
          have g3 : decide (k = 3) = false := decide_eq_false h3
          by_cases c7 : 7 ≤ n
          · have d7 : decide (7 ≤ n) = true := decide_eq_true c7
            have hF : mvd n k = 11 := by unfold mvd; rw [if_neg h1, if_pos c7, if_neg h2]
            rw [hF]
            clear hF
            go_enter Tryd.func60, Tryd.ntmps60
            go_wp2
            go_ret
            exact ⟨rfl, rfl⟩
          · have d7 : decide (7 ≤ n) = false := decide_eq_false c7
            have hF : mvd n k = 9 := by unfold mvd; rw [if_neg h1, if_neg c7, if_neg h2, if_neg h3]
            rw [hF]
            clear hF
            go_enter Tryd.func60, Tryd.ntmps60
            go_wp2
            go_ret
            exact ⟨rfl, rfl⟩
theorem cells5f {w : World} {a : Nat} {x0 x1 x2 x3 x4 : Value} {t : TypeId} (h : w.heap[a]? = some (.cells #[x0, x1, x2, x3, x4] t (0, 0))) : (w.frozen? ⟨a, 0, none⟩ = false ∧ w.frozen? ⟨a, 1, none⟩ = false ∧ w.frozen? ⟨a, 2, none⟩ = false ∧ w.frozen? ⟨a, 3, none⟩ = false ∧ w.frozen? ⟨a, 4, none⟩ = false) :=
  ⟨by simp [World.frozen?, h], by simp [World.frozen?, h], by simp [World.frozen?, h], by simp [World.frozen?, h], by simp [World.frozen?, h]⟩
/-- The distance number i. -/
def repI (s : Stt) (i : Nat) : Int := match i with | 0 => s.a | 1 => s.b | 2 => s.c | _ => s.d
theorem right_iff (s : Stt) : right s ↔ (0 ≤ s.n ∧ s.n ≤ 11) ∧ ∀ i, i < 4 → okR (repI s i) := by
  unfold right
  constructor
  · rintro ⟨h, a, b, c, d⟩
    refine ⟨h, fun i hi => ?_⟩
    rcases i with _ | _ | _ | _ | i
    · exact a
    · exact b
    · exact c
    · exact d
    · omega
  · rintro ⟨h, f⟩
    exact ⟨h, f 0 (by omega), f 1 (by omega), f 2 (by omega), f 3 (by omega)⟩
theorem rep_cell {w : World} {g : Nat} {s : Stt} {t : TypeId} (h : w.heap[g]? = some (.cells #[.int .i64 s.n, .int .i64 s.a, .int .i64 s.b, .int .i64 s.c, .int .i64 s.d] t (0, 0))) {i : Nat} (hi : i < 4) : w.cell? ⟨g, 1 + i, none⟩ = some (.int .i64 (repI s i)) := by
  rcases i with _ | _ | _ | _ | i
  · simp [World.cell?, h, repI]
  · simp [World.cell?, h, repI]
  · simp [World.cell?, h, repI]
  · simp [World.cell?, h, repI]
  · omega
set_option maxHeartbeats 2000000 in
theorem rright_q (s : Stt) (hs : s.I) (w : World) : Calls Tryd.prog 59 #[stv s] w fun e w' => e = .returned (.bool (decide (right s))) ∧ Chg (fun _ => False) w w' := by
  have cB := chg_one w (.cells #[.int .i64 s.n, .int .i64 s.a, .int .i64 s.b, .int .i64 s.c, .int .i64 s.d] 52)
  have hbk := heap_alloc_last w (.cells #[.int .i64 s.n, .int .i64 s.a, .int .i64 s.b, .int .i64 s.c, .int .i64 s.d] 52)
  have HK : Hid _ := hbk
  have HC : Hid _ := cB
  clear hbk cB
  unfold stv
  go_enter Tryd.func59, Tryd.ntmps59
  go_wp2_with fail
  generalize w.alloc (.cells #[.int .i64 s.n, .int .i64 s.a, .int .i64 s.b, .int .i64 s.c, .int .i64 s.d] 52) = W at *
  go_loopw [3] (fun v wr => ∃ i : Nat, i ≤ 4 ∧ v = .int .i64 (i : Int) ∧ wr = W ∧ Hid (∀ j, j < i → okR (repI s j))) (fun v _ => 4 - (intOf v).toNat)
  case atStart => exact ⟨0, by omega, rfl, rfl, fun j hj => by omega⟩
  case round =>
    obtain ⟨i, hi, rfl, rfl, HI⟩ := hrel
    have hii : (i : Int) ≤ 4 := by omega
    by_cases h4 : i < 4
    · have hd : decide ((i : Int) < 4) = true := by simp; omega
      have hd' : decide (i < 4) = true := decide_eq_true h4
      have kc := rep_cell HK.out h4
      obtain ⟨r, hr⟩ : ∃ r, repI s i = r := ⟨_, rfl⟩
      rw [hr] at kc
      have HR : Hid (repI s i = r) := hr
      clear hr
      by_cases c1 : r < 1
      · have d1 : decide (r < 1) = true := decide_eq_true c1
        have HF : Hid (decide (right s) = false) := decide_eq_false (fun h => by
          have := ((right_iff s).1 h).2 i h4
          rw [HR.out] at this
          have := this.1
          omega)
        go_wp2
        go_ret
        exact ⟨by rw [HF.out]; rfl, HC.out⟩
      · have d1 : decide (r < 1) = false := decide_eq_false c1
        by_cases c2 : 4294967295 < r
        · have d2 : decide (4294967295 < r) = true := decide_eq_true c2
          have HF : Hid (decide (right s) = false) := decide_eq_false (fun h => by
            have := ((right_iff s).1 h).2 i h4
            rw [HR.out] at this
            have := this.2
            omega)
          go_wp2
          go_ret
          exact ⟨by rw [HF.out]; rfl, HC.out⟩
        · have d2 : decide (4294967295 < r) = false := decide_eq_false c2
          have HN : Hid (∀ j, j < i + 1 → okR (repI s j)) := fun j hj => by
            by_cases e : j = i
            · subst e; rw [HR.out]; exact ⟨by omega, by omega⟩
            · exact HI.out j (by omega)
          go_wp2_with fail
          go_roundw
          case rel => exact ⟨i + 1, by omega, by go_num, trivial, HN.out⟩
          case measure => simp [intOf]; omega
    · have hd : decide ((i : Int) < 4) = false := by simp; omega
      have hd' : decide (i < 4) = false := decide_eq_false h4
      have kn : wr.cell? ⟨w.heap.size, 0, none⟩ = some (.int .i64 s.n) := (cells5 HK.out).1
      have HA : Hid (∀ j, j < 4 → okR (repI s j)) := fun j hj => HI.out j (by omega)
      by_cases c1 : 0 ≤ s.n
      · have d1 : decide (0 ≤ s.n) = true := decide_eq_true c1
        have HF : Hid (decide (right s) = decide (s.n ≤ 11)) := decide_eq_decide.2 ⟨fun h => ((right_iff s).1 h).1.2, fun h => (right_iff s).2 ⟨⟨c1, h⟩, HA.out⟩⟩
        go_wp2
        go_ret
        exact ⟨by rw [HF.out]; rfl, HC.out⟩
      · have d1 : decide (0 ≤ s.n) = false := decide_eq_false c1
        have HF : Hid (decide (right s) = false) := decide_eq_false (fun h => c1 ((right_iff s).1 h).1.1)
        go_wp2
        go_ret
        exact ⟨by rw [HF.out]; rfl, HC.out⟩
end Go.Proofs.YtlnocjicmofjfaaDoor

/- The document's Next; of no statement by itself. -/
namespace Go.Proofs.YtlnocjicmofjfaaDoor
open Go.RowKit
open St12
set_option linter.unusedVariables false
set_option linter.unusedSimpArgs false

/-- Five cells stored, one after the other. -/
def put5 (W : World) (g : Nat) (x0 x1 x2 x3 x4 : Value) : World := ((((W.setCell ⟨g, 0, none⟩ x0).setCell ⟨g, 1, none⟩ x1).setCell ⟨g, 2, none⟩ x2).setCell ⟨g, 3, none⟩ x3).setCell ⟨g, 4, none⟩ x4
structure Put5 (W : World) (g : Nat) (v0 v1 v2 v3 v4 x0 x1 x2 x3 x4 : Value) (t : TypeId) : Prop where
  k0 : W.cell? ⟨g, 0, none⟩ = some v0 ∧ W.frozen? ⟨g, 0, none⟩ = false
  k1 : (W.setCell ⟨g, 0, none⟩ x0).cell? ⟨g, 1, none⟩ = some v1 ∧ (W.setCell ⟨g, 0, none⟩ x0).frozen? ⟨g, 1, none⟩ = false
  k2 : ((W.setCell ⟨g, 0, none⟩ x0).setCell ⟨g, 1, none⟩ x1).cell? ⟨g, 2, none⟩ = some v2 ∧ ((W.setCell ⟨g, 0, none⟩ x0).setCell ⟨g, 1, none⟩ x1).frozen? ⟨g, 2, none⟩ = false
  k3 : (((W.setCell ⟨g, 0, none⟩ x0).setCell ⟨g, 1, none⟩ x1).setCell ⟨g, 2, none⟩ x2).cell? ⟨g, 3, none⟩ = some v3 ∧ (((W.setCell ⟨g, 0, none⟩ x0).setCell ⟨g, 1, none⟩ x1).setCell ⟨g, 2, none⟩ x2).frozen? ⟨g, 3, none⟩ = false
  k4 : ((((W.setCell ⟨g, 0, none⟩ x0).setCell ⟨g, 1, none⟩ x1).setCell ⟨g, 2, none⟩ x2).setCell ⟨g, 3, none⟩ x3).cell? ⟨g, 4, none⟩ = some v4 ∧ ((((W.setCell ⟨g, 0, none⟩ x0).setCell ⟨g, 1, none⟩ x1).setCell ⟨g, 2, none⟩ x2).setCell ⟨g, 3, none⟩ x3).frozen? ⟨g, 4, none⟩ = false
  blk : (((((W.setCell ⟨g, 0, none⟩ x0).setCell ⟨g, 1, none⟩ x1).setCell ⟨g, 2, none⟩ x2).setCell ⟨g, 3, none⟩ x3).setCell ⟨g, 4, none⟩ x4).heap[g]? = some (.cells #[x0, x1, x2, x3, x4] t (0, 0))
  chg : Chg (fun q => q = g) W (((((W.setCell ⟨g, 0, none⟩ x0).setCell ⟨g, 1, none⟩ x1).setCell ⟨g, 2, none⟩ x2).setCell ⟨g, 3, none⟩ x3).setCell ⟨g, 4, none⟩ x4)
theorem put5_of {W : World} {g : Nat} {v0 v1 v2 v3 v4 : Value} {t : TypeId} (h : W.heap[g]? = some (.cells #[v0, v1, v2, v3, v4] t (0, 0))) (x0 x1 x2 x3 x4 : Value) : Put5 W g v0 v1 v2 v3 v4 x0 x1 x2 x3 x4 t := by
  have h1 : (W.setCell ⟨g, 0, none⟩ x0).heap[g]? = some (.cells #[x0, v1, v2, v3, v4] t (0, 0)) := set_blk _ h
  have h2 : ((W.setCell ⟨g, 0, none⟩ x0).setCell ⟨g, 1, none⟩ x1).heap[g]? = some (.cells #[x0, x1, v2, v3, v4] t (0, 0)) := set_blk _ h1
  have h3 : (((W.setCell ⟨g, 0, none⟩ x0).setCell ⟨g, 1, none⟩ x1).setCell ⟨g, 2, none⟩ x2).heap[g]? = some (.cells #[x0, x1, x2, v3, v4] t (0, 0)) := set_blk _ h2
  have h4 : ((((W.setCell ⟨g, 0, none⟩ x0).setCell ⟨g, 1, none⟩ x1).setCell ⟨g, 2, none⟩ x2).setCell ⟨g, 3, none⟩ x3).heap[g]? = some (.cells #[x0, x1, x2, x3, v4] t (0, 0)) := set_blk _ h3
  have h5 : (((((W.setCell ⟨g, 0, none⟩ x0).setCell ⟨g, 1, none⟩ x1).setCell ⟨g, 2, none⟩ x2).setCell ⟨g, 3, none⟩ x3).setCell ⟨g, 4, none⟩ x4).heap[g]? = some (.cells #[x0, x1, x2, x3, x4] t (0, 0)) := set_blk _ h4
  exact ⟨⟨(cells5 h).1, (cells5f h).1⟩, ⟨(cells5 h1).2.1, (cells5f h1).2.1⟩, ⟨(cells5 h2).2.2.1, (cells5f h2).2.2.1⟩, ⟨(cells5 h3).2.2.2.1, (cells5f h3).2.2.2.1⟩, ⟨(cells5 h4).2.2.2.2, (cells5f h4).2.2.2.2⟩, h5, (((((Chg.refl (fun q => q = g) W).setCell (p := ⟨g, 0, none⟩) (.inl rfl) _).setCell (p := ⟨g, 1, none⟩) (.inl rfl) _).setCell (p := ⟨g, 2, none⟩) (.inl rfl) _).setCell (p := ⟨g, 3, none⟩) (.inl rfl) _).setCell (p := ⟨g, 4, none⟩) (.inl rfl) _⟩
theorem cells4y {w : World} {a : Nat} {x y z u : Value} {t : TypeId} (h : w.heap[a]? = some (.cells #[x, y, z, u] t (0, 0))) : w.cell? ⟨a, 0, none⟩ = some x ∧ w.cell? ⟨a, 1, none⟩ = some y ∧ w.cell? ⟨a, 2, none⟩ = some z ∧ w.cell? ⟨a, 3, none⟩ = some u :=
  ⟨by simp [World.cell?, h], by simp [World.cell?, h], by simp [World.cell?, h], by simp [World.cell?, h]⟩
set_option maxHeartbeats 8000000 in
set_option maxRecDepth 100000 in
theorem rnext_any (n a b c d k yb yl yd : Int) (hs : (⟨n, a, b, c, d⟩ : Stt).I) (hy : (⟨k, yb, yl, yd⟩ : Sym).I) (w : World) : Calls Tryd.prog 45 #[.agg #[.int .i64 n, .int .i64 a, .int .i64 b, .int .i64 c, .int .i64 d], .agg #[.int .i64 k, .int .u8 yb, .int .i64 yl, .int .i64 yd]] w fun e w' => e = .returned (.tuple #[stv (nxt ⟨n, a, b, c, d⟩ ⟨k, yb, yl, yd⟩).1, .int .i64 (nxt ⟨n, a, b, c, d⟩ ⟨k, yb, yl, yd⟩).2]) ∧ Chg (fun _ => False) w w' := by
  have cB : Chg (fun _ => False) w (((w.alloc (.cells #[.int .i64 n, .int .i64 a, .int .i64 b, .int .i64 c, .int .i64 d] 52)).alloc (.cells #[.int .i64 k, .int .u8 yb, .int .i64 yl, .int .i64 yd] 33)).alloc (.cells #[.int .i64 0, .int .i64 0, .int .i64 0, .int .i64 0, .int .i64 0] 52)) := (((Chg.refl _ w).alloc _).alloc _).alloc _
  have HS : Hid ((((w.alloc (.cells #[.int .i64 n, .int .i64 a, .int .i64 b, .int .i64 c, .int .i64 d] 52)).alloc (.cells #[.int .i64 k, .int .u8 yb, .int .i64 yl, .int .i64 yd] 33)).alloc (.cells #[.int .i64 0, .int .i64 0, .int .i64 0, .int .i64 0, .int .i64 0] 52)).heap[w.heap.size]? = some (.cells #[.int .i64 n, .int .i64 a, .int .i64 b, .int .i64 c, .int .i64 d] 52 (0, 0))) := (Below.heap_alloc _ _ _ (by simp <;> omega)).trans ((Below.heap_alloc _ _ _ (by simp)).trans (heap_alloc_last w _))
  have HYB : Hid ((((w.alloc (.cells #[.int .i64 n, .int .i64 a, .int .i64 b, .int .i64 c, .int .i64 d] 52)).alloc (.cells #[.int .i64 k, .int .u8 yb, .int .i64 yl, .int .i64 yd] 33)).alloc (.cells #[.int .i64 0, .int .i64 0, .int .i64 0, .int .i64 0, .int .i64 0] 52)).heap[w.heap.size + 1]? = some (.cells #[.int .i64 k, .int .u8 yb, .int .i64 yl, .int .i64 yd] 33 (0, 0))) := by
    have := heap_alloc_last (w.alloc (.cells #[.int .i64 n, .int .i64 a, .int .i64 b, .int .i64 c, .int .i64 d] 52)) (.cells #[.int .i64 k, .int .u8 yb, .int .i64 yl, .int .i64 yd] 33)
    rw [World.size_alloc] at this
    exact (Below.heap_alloc _ _ _ (by simp)).trans this
  have HZ : Hid ((((w.alloc (.cells #[.int .i64 n, .int .i64 a, .int .i64 b, .int .i64 c, .int .i64 d] 52)).alloc (.cells #[.int .i64 k, .int .u8 yb, .int .i64 yl, .int .i64 yd] 33)).alloc (.cells #[.int .i64 0, .int .i64 0, .int .i64 0, .int .i64 0, .int .i64 0] 52)).heap[w.heap.size + 1 + 1]? = some (.cells #[.int .i64 0, .int .i64 0, .int .i64 0, .int .i64 0, .int .i64 0] 52 (0, 0))) := by
    have := heap_alloc_last ((w.alloc (.cells #[.int .i64 n, .int .i64 a, .int .i64 b, .int .i64 c, .int .i64 d] 52)).alloc (.cells #[.int .i64 k, .int .u8 yb, .int .i64 yl, .int .i64 yd] 33)) (.cells #[.int .i64 0, .int .i64 0, .int .i64 0, .int .i64 0, .int .i64 0] 52)
    rw [World.size_alloc, World.size_alloc] at this
    exact this
  have HC : Hid _ := cB
  have HR : Hid (∀ w', Calls Tryd.prog 59 #[.agg #[.int .i64 n, .int .i64 a, .int .i64 b, .int .i64 c, .int .i64 d]] w' fun e w'' => e = .returned (.bool (decide (right ⟨n, a, b, c, d⟩))) ∧ Chg (fun _ => False) w' w'') := fun w' => rright_q ⟨n, a, b, c, d⟩ hs w'
  have HFO : Hid (∀ w', Calls Tryd.prog 54 #[.agg #[.int .i64 k, .int .u8 yb, .int .i64 yl, .int .i64 yd]] w' fun e w'' => e = .returned (.int .i64 (formed ⟨k, yb, yl, yd⟩)) ∧ Chg (fun _ => False) w' w'') := fun w' => rformed_q k yb yl yd hy.k hy.l hy.d w'
  obtain ⟨s0, s1, s2, s3, s4⟩ := cells5 HS.out
  clear cB
  go_enter Tryd.func45, Tryd.ntmps45
  go_wp2_with fail
  generalize ((w.alloc (.cells #[.int .i64 n, .int .i64 a, .int .i64 b, .int .i64 c, .int .i64 d] 52)).alloc (.cells #[.int .i64 k, .int .u8 yb, .int .i64 yl, .int .i64 yd] 33)).alloc (.cells #[.int .i64 0, .int .i64 0, .int .i64 0, .int .i64 0, .int .i64 0] 52) = W at *
  refine (HR.out _).mono ?_
  rintro z w1 ⟨rfl, c1⟩
  have HS1 : Hid (w1.heap[w.heap.size]? = some (.cells #[.int .i64 n, .int .i64 a, .int .i64 b, .int .i64 c, .int .i64 d] 52 (0, 0))) := blk_keep HS.out c1 (fun f => f)
  have HY1 : Hid (w1.heap[w.heap.size + 1]? = some (.cells #[.int .i64 k, .int .u8 yb, .int .i64 yl, .int .i64 yd] 33 (0, 0))) := blk_keep HYB.out c1 (fun f => f)
  have HZ1 : Hid (w1.heap[w.heap.size + 1 + 1]? = some (.cells #[.int .i64 0, .int .i64 0, .int .i64 0, .int .i64 0, .int .i64 0] 52 (0, 0))) := blk_keep HZ.out c1 (fun f => f)
  have HC1 : Hid (Chg (fun _ => False) w w1) := chg_then HC.out c1
  clear c1 HR HS HYB HZ HC s0 s1 s2 s3 s4
  by_cases hr : right ⟨n, a, b, c, d⟩
  · rw [decide_eq_true hr]
    have HRT : Hid (right ⟨n, a, b, c, d⟩) := hr
    clear hr
    obtain ⟨y0, y1, y2, y3⟩ := cells4y HY1.out
    go_wp2_with fail
    refine (HFO.out _).mono ?_
    rintro z W0 ⟨rfl, c2⟩
    have HS2 : Hid (W0.heap[w.heap.size]? = some (.cells #[.int .i64 n, .int .i64 a, .int .i64 b, .int .i64 c, .int .i64 d] 52 (0, 0))) := blk_keep HS1.out c2 (fun f => f)
    have HY2 : Hid (W0.heap[w.heap.size + 1]? = some (.cells #[.int .i64 k, .int .u8 yb, .int .i64 yl, .int .i64 yd] 33 (0, 0))) := blk_keep HY1.out c2 (fun f => f)
    have HZ2 : Hid (W0.heap[w.heap.size + 1 + 1]? = some (.cells #[.int .i64 0, .int .i64 0, .int .i64 0, .int .i64 0, .int .i64 0] 52 (0, 0))) := blk_keep HZ1.out c2 (fun f => f)
    have HC2 : Hid (Chg (fun _ => False) w W0) := chg_then HC1.out c2
    clear c2 HFO HS1 HY1 HZ1 HC1 y0 y1 y2 y3
    by_cases hf : formed ⟨k, yb, yl, yd⟩ = 0
    · have HFK : Hid (formed ⟨k, yb, yl, yd⟩ = 0) := hf
      rw [hf]
      obtain ⟨s0, s1, s2, s3, s4⟩ := cells5 HS2.out
      obtain ⟨y0, y1, y2, y3⟩ := cells4y HY2.out
      obtain ⟨mn, hmn⟩ : ∃ mn, mvd n k = mn := ⟨_, rfl⟩
      have HMV : Hid (∀ ww, Calls Tryd.prog 60 #[.int .i64 n, .int .i64 k] ww fun e w' => e = .returned (.int .i64 mn) ∧ w' = ww) := fun ww => by
        have := moved_q n k HRT.out.1 hy.k ww
        rw [hmn] at this
        exact this
      have HNX : Hid (nxt ⟨n, a, b, c, d⟩ ⟨k, yb, yl, yd⟩ = (⟨mn, (reps ⟨n, a, b, c, d⟩ ⟨k, yb, yl, yd⟩).1, (reps ⟨n, a, b, c, d⟩ ⟨k, yb, yl, yd⟩).2.1, (reps ⟨n, a, b, c, d⟩ ⟨k, yb, yl, yd⟩).2.2.1, (reps ⟨n, a, b, c, d⟩ ⟨k, yb, yl, yd⟩).2.2.2⟩, 0)) := by
        show _ = _
        unfold nxt
        rw [if_neg (not_not_intro HRT.out), if_neg (not_not_intro hf), ← hmn]
      clear hf hmn
      go_wp2_with fail
      refine wp_region_phase (mk := fun u => #[_, _, _, _, _, _, _, _, u 8, _, _, _, _, _, _, _, _, _, _, _, _, _, u 22, u 23, u 24, u 25, u 26, u 27, u 28, u 29, _, _, _, _, _, _, _, _, _, _, _, _, _, _, _, _, _, _, _, _, _, _, _, _, _, _, _, _, _, _, _, _, _, _, _, _, _, _, _, _, _, _, _, _]) (G := lookG [(22, .pointer (some ⟨w.heap.size, 0, none⟩)), (23, .int .i64 n), (24, .pointer (some ⟨(w.heap.size + 1), 0, none⟩)), (25, .int .i64 k), (26, .int .i64 mn), (27, .pointer (some ⟨w.heap.size, 1, none⟩)), (28, .agg #[.int .i64 a, .int .i64 b, .int .i64 c, .int .i64 d]), (29, .agg #[.int .i64 mn, .int .i64 a, .int .i64 b, .int .i64 c, .int .i64 d])]) (J := fun nn u ww => Chg (fun _ => False) W0 ww ∧ (nn = 1 → ∃ b8, u 8 = .pointer (some ⟨b8, 0, none⟩) ∧ W0.heap.size ≤ b8 ∧ ww.heap[b8]? = some (.cells #[.int .i64 0, .int .i64 0, .int .i64 0, .int .i64 0, .int .i64 0] 52 (0, 0)))) [8] (fun _ => undef) rfl (by kernel_rfl) 9 _ rfl rfl (by kernel_rfl) (by kernel_rfl) (by kernel_rfl) (by decide) ?_ ?_ ?_ ?_ ?_
      · repeat (refine ⟨⟨_, rfl, fun _ _ => rfl⟩, ?_⟩)
        exact trivial
      · intro q u u2 ww h hj
        have e8 : u 8 = u2 8 := h 8 (by decide)
        show _ ∧ _
        rw [← e8]
        exact hj
      · exact ⟨(Chg.refl _ W0).drew, fun h => by omega⟩
      · refine ⟨?_, ?_, ?_, ?_, ?_, ?_, ?_, ?_, ?_, trivial⟩
        · show StepR _ _ _ _ _ _  _ -- 22
          unfold StepR
          intro q u w_ hj hd K hK
          clear hd
          go_simp
          exact hK.out (.pointer (some ⟨w.heap.size, 0, none⟩)) rfl
        · show StepR _ _ _ _ _ _  _ -- 23
          unfold StepR
          intro q u w_ hj hd K hK
          have h22 : u 22 = .pointer (some ⟨w.heap.size, 0, none⟩) := hd.get 0 (by kernel_rfl)
          clear hd
          simp only [h22] at hK
          have kq := cell_chg s0 hj.1
          clear hj
          go_simp
          exact hK.out _ rfl
        · show StepR _ _ _ _ _ _  _ -- 24
          unfold StepR
          intro q u w_ hj hd K hK
          clear hd
          go_simp
          exact hK.out (.pointer (some ⟨(w.heap.size + 1), 0, none⟩)) rfl
        · show StepR _ _ _ _ _ _  _ -- 25
          unfold StepR
          intro q u w_ hj hd K hK
          have h24 : u 24 = .pointer (some ⟨(w.heap.size + 1), 0, none⟩) := hd.get 2 (by kernel_rfl)
          clear hd
          simp only [h24] at hK
          have kq := cell_chg y0 hj.1
          clear hj
          go_simp
          exact hK.out _ rfl
        · show StepR _ _ _ _ _ _  _ -- 26
          unfold StepR
          intro q u w_ hj hd K hK
          have h23 : u 23 = .int .i64 n := hd.get 1 (by kernel_rfl)
          have h25 : u 25 = .int .i64 k := hd.get 3 (by kernel_rfl)
          clear hd
          simp only [h23, h25] at hK
          clear hj
          go_simp
          go_at_call 60
          refine (HMV.out w_).mono ?_
          rintro z w2 ⟨rfl, rfl⟩
          exact hK.out _ rfl
        · show StepR _ _ _ _ _ _  _ -- 27
          unfold StepR
          intro q u w_ hj hd K hK
          clear hd
          go_simp
          exact hK.out (.pointer (some ⟨w.heap.size, 1, none⟩)) rfl
        · show StepR _ _ _ _ _ _  _ -- 28
          unfold StepR
          intro q u w_ hj hd K hK
          have h27 : u 27 = .pointer (some ⟨w.heap.size, 1, none⟩) := hd.get 5 (by kernel_rfl)
          clear hd
          simp only [h27] at hK
          have z1 := cell_chg s1 hj.1
          have z2 := cell_chg s2 hj.1
          have z3 := cell_chg s3 hj.1
          have z4 := cell_chg s4 hj.1
          clear hj
          go_simp
          exact hK.out _ rfl
        · show StepR _ _ _ _ _ _  _ -- 29
          unfold StepR
          intro q u w_ hj hd K hK
          have h26 : u 26 = .int .i64 mn := hd.get 4 (by kernel_rfl)
          have h28 : u 28 = .agg #[.int .i64 a, .int .i64 b, .int .i64 c, .int .i64 d] := hd.get 6 (by kernel_rfl)
          clear hd
          simp only [h26, h28] at hK
          go_simp
          exact hK.out (.agg #[.int .i64 mn, .int .i64 a, .int .i64 b, .int .i64 c, .int .i64 d]) rfl
        · show StepW _ _ _ _ _ _ 0 _ -- 8
          unfold StepW
          intro u w_ hj hd K hK
          clear hd
          obtain ⟨hc, _⟩ := hj
          go_simp
          exact hK.out _ _ ⟨hc.alloc _, fun _ => ⟨_, rfl, hc.size, heap_alloc_last _ _⟩⟩ trivial
      · intro u w5 hj hA K hK
        obtain ⟨hc5, h8⟩ := hj
        obtain ⟨b8, e8, hb8, hk8⟩ := h8 rfl
        have e29 : u 29 = .agg #[.int .i64 mn, .int .i64 a, .int .i64 b, .int .i64 c, .int .i64 d] := hA.at 29 (by kernel_rfl)
        have hP := put5_of hk8 (.int .i64 mn) (.int .i64 a) (.int .i64 b) (.int .i64 c) (.int .i64 d)
        obtain ⟨⟨p0, f0⟩, ⟨p1, f1⟩, ⟨p2, f2⟩, ⟨p3, f3⟩, ⟨p4, f4⟩, hblk, hchg⟩ := hP
        have hl1 := lt_of_blk HS2.out
        have hl2 := lt_of_blk HY2.out
        have hl3 := lt_of_blk HZ2.out
        have HS3 : Hid ((((((w5.setCell ⟨b8, 0, none⟩ (.int .i64 mn)).setCell ⟨b8, 1, none⟩ (.int .i64 a)).setCell ⟨b8, 2, none⟩ (.int .i64 b)).setCell ⟨b8, 3, none⟩ (.int .i64 c)).setCell ⟨b8, 4, none⟩ (.int .i64 d)).heap[w.heap.size]? = some (.cells #[.int .i64 n, .int .i64 a, .int .i64 b, .int .i64 c, .int .i64 d] 52 (0, 0))) := blk_keep (blk_keep HS2.out hc5 (fun f => f)) hchg (by omega)
        have HY3 : Hid ((((((w5.setCell ⟨b8, 0, none⟩ (.int .i64 mn)).setCell ⟨b8, 1, none⟩ (.int .i64 a)).setCell ⟨b8, 2, none⟩ (.int .i64 b)).setCell ⟨b8, 3, none⟩ (.int .i64 c)).setCell ⟨b8, 4, none⟩ (.int .i64 d)).heap[w.heap.size + 1]? = some (.cells #[.int .i64 k, .int .u8 yb, .int .i64 yl, .int .i64 yd] 33 (0, 0))) := blk_keep (blk_keep HY2.out hc5 (fun f => f)) hchg (by omega)
        have HZ3 : Hid ((((((w5.setCell ⟨b8, 0, none⟩ (.int .i64 mn)).setCell ⟨b8, 1, none⟩ (.int .i64 a)).setCell ⟨b8, 2, none⟩ (.int .i64 b)).setCell ⟨b8, 3, none⟩ (.int .i64 c)).setCell ⟨b8, 4, none⟩ (.int .i64 d)).heap[w.heap.size + 1 + 1]? = some (.cells #[.int .i64 0, .int .i64 0, .int .i64 0, .int .i64 0, .int .i64 0] 52 (0, 0))) := blk_keep (blk_keep HZ2.out hc5 (fun f => f)) hchg (by omega)
        have HT3 : Hid ((((((w5.setCell ⟨b8, 0, none⟩ (.int .i64 mn)).setCell ⟨b8, 1, none⟩ (.int .i64 a)).setCell ⟨b8, 2, none⟩ (.int .i64 b)).setCell ⟨b8, 3, none⟩ (.int .i64 c)).setCell ⟨b8, 4, none⟩ (.int .i64 d)).heap[b8]? = some (.cells #[.int .i64 mn, .int .i64 a, .int .i64 b, .int .i64 c, .int .i64 d] 52 (0, 0))) := hblk
        have HC3 : Hid (Chg (fun _ => False) w (((((w5.setCell ⟨b8, 0, none⟩ (.int .i64 mn)).setCell ⟨b8, 1, none⟩ (.int .i64 a)).setCell ⟨b8, 2, none⟩ (.int .i64 b)).setCell ⟨b8, 3, none⟩ (.int .i64 c)).setCell ⟨b8, 4, none⟩ (.int .i64 d))) := (chg_then HC2.out hc5).trans hchg (fun z e => .inr (by have := HC2.out.size; omega))
        have HG : Hid (w.heap.size < b8 ∧ w.heap.size + 1 < b8 ∧ w.heap.size + 1 + 1 < b8) := ⟨by omega, by omega, by omega⟩
        clear hA h8 hk8 hblk hchg hc5 HS2 HY2 HZ2 HC2 s0 s1 s2 s3 s4 y0 y1 y2 y3 HMV hl1 hl2 hl3 hb8
        go_simp
        refine hK.out _ _ ?_
        clear hK e8 e29 K p0 f0 p1 f1 p2 f2 p3 f3 p4 f4
        generalize ((((w5.setCell ⟨b8, 0, none⟩ (.int .i64 mn)).setCell ⟨b8, 1, none⟩ (.int .i64 a)).setCell ⟨b8, 2, none⟩ (.int .i64 b)).setCell ⟨b8, 3, none⟩ (.int .i64 c)).setCell ⟨b8, 4, none⟩ (.int .i64 d) = Wt at *
        have HFT : Hid (Wt.heap[w.heap.size]? = some (.cells #[.int .i64 n, .int .i64 a, .int .i64 b, .int .i64 c, .int .i64 d] 52 (0, 0)) ∧ Wt.heap[w.heap.size + 1]? = some (.cells #[.int .i64 k, .int .u8 yb, .int .i64 yl, .int .i64 yd] 33 (0, 0)) ∧ Wt.heap[w.heap.size + 1 + 1]? = some (.cells #[.int .i64 0, .int .i64 0, .int .i64 0, .int .i64 0, .int .i64 0] 52 (0, 0)) ∧ Wt.heap[b8]? = some (.cells #[.int .i64 mn, .int .i64 a, .int .i64 b, .int .i64 c, .int .i64 d] 52 (0, 0)) ∧ Chg (fun _ => False) w Wt) := ⟨HS3.out, HY3.out, HZ3.out, HT3.out, HC3.out⟩
        obtain ⟨y0, y1, y2, y3⟩ := cells4y HY3.out
        obtain ⟨s0, s1, s2, s3, s4⟩ := cells5 HS3.out
        obtain ⟨g1, g2, g3⟩ := HG.out
        have hkind := formed_kind HFK.out
        simp only at hkind
        clear HS3 HY3 HZ3 HC3
        rcases hkind with rfl | ⟨rfl, hl1, hl2, hd1, hd2⟩ | ⟨rfl, hl1, hl2, hd1, hd2⟩ | rfl
        · clear HT3
          obtain ⟨_, _, hz, ht, hcc⟩ := HFT.out
          obtain ⟨t0, t1, t2, t3, t4⟩ := cells5 ht
          obtain ⟨⟨p0, f0⟩, ⟨p1, f1⟩, ⟨p2, f2⟩, ⟨p3, f3⟩, ⟨p4, f4⟩, hblk, hchg⟩ := put5_of hz (.int .i64 mn) (.int .i64 a) (.int .i64 b) (.int .i64 c) (.int .i64 d)
          have HE : Hid _ := cells5 hblk
          have HCE : Hid (Chg (fun _ => False) w _) := hcc.trans hchg (fun z e => .inr (by omega))
          clear hz ht hcc hblk hchg
          go_wp2
          obtain ⟨q0, q1, q2, q3, q4⟩ := HE.out
          refine bodyPost_ret (v := .tuple #[.agg #[.int .i64 mn, .int .i64 a, .int .i64 b, .int .i64 c, .int .i64 d], .int .i64 0]) (by simp [results, Tryd.results45, go_sem, q0, q1, q2, q3, q4]) rfl ?_
          exact ⟨by rw [HNX.out]; rfl, HCE.out⟩
        · have h1 : ((Wt).setCell ⟨b8, 1, none⟩ (.int .i64 yd)).heap[b8]? = some (.cells #[.int .i64 mn, .int .i64 yd, .int .i64 b, .int .i64 c, .int .i64 d] 52 (0, 0)) := set_blk _ HT3.out
          have h2 : (((Wt).setCell ⟨b8, 1, none⟩ (.int .i64 yd)).setCell ⟨b8, 2, none⟩ (.int .i64 a)).heap[b8]? = some (.cells #[.int .i64 mn, .int .i64 yd, .int .i64 a, .int .i64 c, .int .i64 d] 52 (0, 0)) := set_blk _ h1
          have h3 : ((((Wt).setCell ⟨b8, 1, none⟩ (.int .i64 yd)).setCell ⟨b8, 2, none⟩ (.int .i64 a)).setCell ⟨b8, 3, none⟩ (.int .i64 b)).heap[b8]? = some (.cells #[.int .i64 mn, .int .i64 yd, .int .i64 a, .int .i64 b, .int .i64 d] 52 (0, 0)) := set_blk _ h2
          have h4 : (((((Wt).setCell ⟨b8, 1, none⟩ (.int .i64 yd)).setCell ⟨b8, 2, none⟩ (.int .i64 a)).setCell ⟨b8, 3, none⟩ (.int .i64 b)).setCell ⟨b8, 4, none⟩ (.int .i64 c)).heap[b8]? = some (.cells #[.int .i64 mn, .int .i64 yd, .int .i64 a, .int .i64 b, .int .i64 c] 52 (0, 0)) := set_blk _ h3
          obtain ⟨_, x1, _⟩ := cells5 HT3.out
          obtain ⟨_, _, x2, _⟩ := cells5 h1
          obtain ⟨_, _, _, x3, _⟩ := cells5 h2
          obtain ⟨_, _, _, _, x4⟩ := cells5 h3
          obtain ⟨_, z1, _⟩ := cells5f HT3.out
          obtain ⟨_, _, z2, _⟩ := cells5f h1
          obtain ⟨_, _, _, z3, _⟩ := cells5f h2
          obtain ⟨_, _, _, _, z4⟩ := cells5f h3
          have cT : Chg (fun q => q = b8) Wt (((((Wt).setCell ⟨b8, 1, none⟩ (.int .i64 yd)).setCell ⟨b8, 2, none⟩ (.int .i64 a)).setCell ⟨b8, 3, none⟩ (.int .i64 b)).setCell ⟨b8, 4, none⟩ (.int .i64 c)) := ((((Chg.refl (fun q => q = b8) Wt).setCell (p := ⟨b8, 1, none⟩) (.inl rfl) _).setCell (p := ⟨b8, 2, none⟩) (.inl rfl) _).setCell (p := ⟨b8, 3, none⟩) (.inl rfl) _).setCell (p := ⟨b8, 4, none⟩) (.inl rfl) _
          have HF2 : Hid ((((((Wt).setCell ⟨b8, 1, none⟩ (.int .i64 yd)).setCell ⟨b8, 2, none⟩ (.int .i64 a)).setCell ⟨b8, 3, none⟩ (.int .i64 b)).setCell ⟨b8, 4, none⟩ (.int .i64 c)).heap[w.heap.size]? = some (.cells #[.int .i64 n, .int .i64 a, .int .i64 b, .int .i64 c, .int .i64 d] 52 (0, 0)) ∧ (((((Wt).setCell ⟨b8, 1, none⟩ (.int .i64 yd)).setCell ⟨b8, 2, none⟩ (.int .i64 a)).setCell ⟨b8, 3, none⟩ (.int .i64 b)).setCell ⟨b8, 4, none⟩ (.int .i64 c)).heap[w.heap.size + 1]? = some (.cells #[.int .i64 2, .int .u8 yb, .int .i64 yl, .int .i64 yd] 33 (0, 0)) ∧ (((((Wt).setCell ⟨b8, 1, none⟩ (.int .i64 yd)).setCell ⟨b8, 2, none⟩ (.int .i64 a)).setCell ⟨b8, 3, none⟩ (.int .i64 b)).setCell ⟨b8, 4, none⟩ (.int .i64 c)).heap[w.heap.size + 1 + 1]? = some (.cells #[.int .i64 0, .int .i64 0, .int .i64 0, .int .i64 0, .int .i64 0] 52 (0, 0)) ∧ (((((Wt).setCell ⟨b8, 1, none⟩ (.int .i64 yd)).setCell ⟨b8, 2, none⟩ (.int .i64 a)).setCell ⟨b8, 3, none⟩ (.int .i64 b)).setCell ⟨b8, 4, none⟩ (.int .i64 c)).heap[b8]? = some (.cells #[.int .i64 mn, .int .i64 yd, .int .i64 a, .int .i64 b, .int .i64 c] 52 (0, 0)) ∧ Chg (fun _ => False) w (((((Wt).setCell ⟨b8, 1, none⟩ (.int .i64 yd)).setCell ⟨b8, 2, none⟩ (.int .i64 a)).setCell ⟨b8, 3, none⟩ (.int .i64 b)).setCell ⟨b8, 4, none⟩ (.int .i64 c))) := ⟨blk_keep HFT.out.1 cT (by omega), blk_keep HFT.out.2.1 cT (by omega), blk_keep HFT.out.2.2.1 cT (by omega), h4, HFT.out.2.2.2.2.trans cT (fun z e => .inr (by omega))⟩
          have yk := (cells4y HF2.out.2.1).1
          clear h1 h2 h3 h4 cT HT3 HFT
          go_upto_region 10 with fail
          generalize ((((Wt).setCell ⟨b8, 1, none⟩ (.int .i64 yd)).setCell ⟨b8, 2, none⟩ (.int .i64 a)).setCell ⟨b8, 3, none⟩ (.int .i64 b)).setCell ⟨b8, 4, none⟩ (.int .i64 c) = We at *
          obtain ⟨_, _, hz, ht, hcc⟩ := HF2.out
          obtain ⟨t0, t1, t2, t3, t4⟩ := cells5 ht
          obtain ⟨⟨p0, f0⟩, ⟨p1, f1⟩, ⟨p2, f2⟩, ⟨p3, f3⟩, ⟨p4, f4⟩, hblk, hchg⟩ := put5_of hz (.int .i64 mn) (.int .i64 yd) (.int .i64 a) (.int .i64 b) (.int .i64 c)
          have HE : Hid _ := cells5 hblk
          have HCE : Hid (Chg (fun _ => False) w _) := hcc.trans hchg (fun z e => .inr (by omega))
          clear hz ht hcc hblk hchg
          go_wp2
          obtain ⟨q0, q1, q2, q3, q4⟩ := HE.out
          refine bodyPost_ret (v := .tuple #[.agg #[.int .i64 mn, .int .i64 yd, .int .i64 a, .int .i64 b, .int .i64 c], .int .i64 0]) (by simp [results, Tryd.results45, go_sem, q0, q1, q2, q3, q4]) rfl ?_
          exact ⟨by rw [HNX.out]; rfl, HCE.out⟩
        · have hyd : yd = 0 ∨ yd = 1 ∨ yd = 2 ∨ yd = 3 := by omega
          clear hd1 hd2
          rcases hyd with rfl | rfl | rfl | rfl
          · have h1 : ((Wt).setCell ⟨b8, 1, none⟩ (.int .i64 a)).heap[b8]? = some (.cells #[.int .i64 mn, .int .i64 a, .int .i64 b, .int .i64 c, .int .i64 d] 52 (0, 0)) := set_blk _ HT3.out
            obtain ⟨_, x1, _⟩ := cells5 HT3.out
            obtain ⟨_, z1, _⟩ := cells5f HT3.out
            have cT : Chg (fun q => q = b8) Wt ((Wt).setCell ⟨b8, 1, none⟩ (.int .i64 a)) := (Chg.refl (fun q => q = b8) Wt).setCell (p := ⟨b8, 1, none⟩) (.inl rfl) _
            have HF2 : Hid (((Wt).setCell ⟨b8, 1, none⟩ (.int .i64 a)).heap[w.heap.size]? = some (.cells #[.int .i64 n, .int .i64 a, .int .i64 b, .int .i64 c, .int .i64 d] 52 (0, 0)) ∧ ((Wt).setCell ⟨b8, 1, none⟩ (.int .i64 a)).heap[w.heap.size + 1]? = some (.cells #[.int .i64 3, .int .u8 yb, .int .i64 yl, .int .i64 0] 33 (0, 0)) ∧ ((Wt).setCell ⟨b8, 1, none⟩ (.int .i64 a)).heap[w.heap.size + 1 + 1]? = some (.cells #[.int .i64 0, .int .i64 0, .int .i64 0, .int .i64 0, .int .i64 0] 52 (0, 0)) ∧ ((Wt).setCell ⟨b8, 1, none⟩ (.int .i64 a)).heap[b8]? = some (.cells #[.int .i64 mn, .int .i64 a, .int .i64 b, .int .i64 c, .int .i64 d] 52 (0, 0)) ∧ Chg (fun _ => False) w ((Wt).setCell ⟨b8, 1, none⟩ (.int .i64 a))) := ⟨blk_keep HFT.out.1 cT (by omega), blk_keep HFT.out.2.1 cT (by omega), blk_keep HFT.out.2.2.1 cT (by omega), h1, HFT.out.2.2.2.2.trans cT (fun z e => .inr (by omega))⟩
            clear h1 cT HT3 HFT
            go_wp2_with fail
            generalize (Wt).setCell ⟨b8, 1, none⟩ (.int .i64 a) = We at *
            clear y0 y1 y2 y3 s0 s1 s2 s3 s4
            go_loopw [9, 10] (fun v1 v2 wr => (v1 = .int .i64 0 ∧ v2 = .int .i64 0 ∧ Hid (wr.heap[w.heap.size]? = some (.cells #[.int .i64 n, .int .i64 a, .int .i64 b, .int .i64 c, .int .i64 d] 52 (0, 0)) ∧ wr.heap[w.heap.size + 1]? = some (.cells #[.int .i64 3, .int .u8 yb, .int .i64 yl, .int .i64 0] 33 (0, 0)) ∧ wr.heap[w.heap.size + 1 + 1]? = some (.cells #[.int .i64 0, .int .i64 0, .int .i64 0, .int .i64 0, .int .i64 0] 52 (0, 0)) ∧ wr.heap[b8]? = some (.cells #[.int .i64 mn, .int .i64 a, .int .i64 b, .int .i64 c, .int .i64 d] 52 (0, 0)) ∧ Chg (fun _ => False) w wr)) ∨ (v1 = .int .i64 0 ∧ v2 = .int .i64 1 ∧ Hid (wr.heap[w.heap.size]? = some (.cells #[.int .i64 n, .int .i64 a, .int .i64 b, .int .i64 c, .int .i64 d] 52 (0, 0)) ∧ wr.heap[w.heap.size + 1]? = some (.cells #[.int .i64 3, .int .u8 yb, .int .i64 yl, .int .i64 0] 33 (0, 0)) ∧ wr.heap[w.heap.size + 1 + 1]? = some (.cells #[.int .i64 0, .int .i64 0, .int .i64 0, .int .i64 0, .int .i64 0] 52 (0, 0)) ∧ wr.heap[b8]? = some (.cells #[.int .i64 mn, .int .i64 a, .int .i64 b, .int .i64 c, .int .i64 d] 52 (0, 0)) ∧ Chg (fun _ => False) w wr)) ∨ (v1 = .int .i64 1 ∧ v2 = .int .i64 2 ∧ Hid (wr.heap[w.heap.size]? = some (.cells #[.int .i64 n, .int .i64 a, .int .i64 b, .int .i64 c, .int .i64 d] 52 (0, 0)) ∧ wr.heap[w.heap.size + 1]? = some (.cells #[.int .i64 3, .int .u8 yb, .int .i64 yl, .int .i64 0] 33 (0, 0)) ∧ wr.heap[w.heap.size + 1 + 1]? = some (.cells #[.int .i64 0, .int .i64 0, .int .i64 0, .int .i64 0, .int .i64 0] 52 (0, 0)) ∧ wr.heap[b8]? = some (.cells #[.int .i64 mn, .int .i64 a, .int .i64 b, .int .i64 c, .int .i64 d] 52 (0, 0)) ∧ Chg (fun _ => False) w wr)) ∨ (v1 = .int .i64 2 ∧ v2 = .int .i64 3 ∧ Hid (wr.heap[w.heap.size]? = some (.cells #[.int .i64 n, .int .i64 a, .int .i64 b, .int .i64 c, .int .i64 d] 52 (0, 0)) ∧ wr.heap[w.heap.size + 1]? = some (.cells #[.int .i64 3, .int .u8 yb, .int .i64 yl, .int .i64 0] 33 (0, 0)) ∧ wr.heap[w.heap.size + 1 + 1]? = some (.cells #[.int .i64 0, .int .i64 0, .int .i64 0, .int .i64 0, .int .i64 0] 52 (0, 0)) ∧ wr.heap[b8]? = some (.cells #[.int .i64 mn, .int .i64 a, .int .i64 b, .int .i64 c, .int .i64 d] 52 (0, 0)) ∧ Chg (fun _ => False) w wr)) ∨ (v1 = .int .i64 3 ∧ v2 = .int .i64 4 ∧ Hid (wr.heap[w.heap.size]? = some (.cells #[.int .i64 n, .int .i64 a, .int .i64 b, .int .i64 c, .int .i64 d] 52 (0, 0)) ∧ wr.heap[w.heap.size + 1]? = some (.cells #[.int .i64 3, .int .u8 yb, .int .i64 yl, .int .i64 0] 33 (0, 0)) ∧ wr.heap[w.heap.size + 1 + 1]? = some (.cells #[.int .i64 0, .int .i64 0, .int .i64 0, .int .i64 0, .int .i64 0] 52 (0, 0)) ∧ wr.heap[b8]? = some (.cells #[.int .i64 mn, .int .i64 a, .int .i64 b, .int .i64 c, .int .i64 d] 52 (0, 0)) ∧ Chg (fun _ => False) w wr))) (fun _ v2 _ => 4 - (intOf v2).toNat)
            case atStart => exact .inl ⟨rfl, rfl, HF2.out⟩
            case round =>
              clear HF2
              rcases hrel with ⟨rfl, rfl, HF⟩ | ⟨rfl, rfl, HF⟩ | ⟨rfl, rfl, HF⟩ | ⟨rfl, rfl, HF⟩ | ⟨rfl, rfl, HF⟩
              · obtain ⟨y0, y1, y2, y3⟩ := cells4y HF.out.2.1
                go_wp2_with fail
                go_roundw
                case rel => exact .inr (.inl ⟨rfl, rfl, HF.out⟩)
                case measure => simp [intOf]
              · obtain ⟨y0, y1, y2, y3⟩ := cells4y HF.out.2.1
                obtain ⟨s0, s1, s2, s3, s4⟩ := cells5 HF.out.1
                obtain ⟨x0, x1, x2, x3, x4⟩ := cells5 HF.out.2.2.2.1
                obtain ⟨z0, z1, z2, z3, z4⟩ := cells5f HF.out.2.2.2.1
                have h1 : ((wr).setCell ⟨b8, 2, none⟩ (.int .i64 b)).heap[b8]? = some (.cells #[.int .i64 mn, .int .i64 a, .int .i64 b, .int .i64 c, .int .i64 d] 52 (0, 0)) := set_blk _ HF.out.2.2.2.1
                have cT : Chg (fun q => q = b8) wr ((wr).setCell ⟨b8, 2, none⟩ (.int .i64 b)) := (Chg.refl (fun q => q = b8) wr).setCell (p := ⟨b8, 2, none⟩) (.inl rfl) _
                have HF3 : Hid (((wr).setCell ⟨b8, 2, none⟩ (.int .i64 b)).heap[w.heap.size]? = some (.cells #[.int .i64 n, .int .i64 a, .int .i64 b, .int .i64 c, .int .i64 d] 52 (0, 0)) ∧ ((wr).setCell ⟨b8, 2, none⟩ (.int .i64 b)).heap[w.heap.size + 1]? = some (.cells #[.int .i64 3, .int .u8 yb, .int .i64 yl, .int .i64 0] 33 (0, 0)) ∧ ((wr).setCell ⟨b8, 2, none⟩ (.int .i64 b)).heap[w.heap.size + 1 + 1]? = some (.cells #[.int .i64 0, .int .i64 0, .int .i64 0, .int .i64 0, .int .i64 0] 52 (0, 0)) ∧ ((wr).setCell ⟨b8, 2, none⟩ (.int .i64 b)).heap[b8]? = some (.cells #[.int .i64 mn, .int .i64 a, .int .i64 b, .int .i64 c, .int .i64 d] 52 (0, 0)) ∧ Chg (fun _ => False) w ((wr).setCell ⟨b8, 2, none⟩ (.int .i64 b))) := ⟨blk_keep HF.out.1 cT (by omega), blk_keep HF.out.2.1 cT (by omega), blk_keep HF.out.2.2.1 cT (by omega), h1, HF.out.2.2.2.2.trans cT (fun z e => .inr (by omega))⟩
                clear h1 cT HF
                go_wp2_with fail
                go_roundw
                case rel => exact .inr (.inr (.inl ⟨rfl, rfl, HF3.out⟩))
                case measure => simp [intOf]
              · obtain ⟨y0, y1, y2, y3⟩ := cells4y HF.out.2.1
                obtain ⟨s0, s1, s2, s3, s4⟩ := cells5 HF.out.1
                obtain ⟨x0, x1, x2, x3, x4⟩ := cells5 HF.out.2.2.2.1
                obtain ⟨z0, z1, z2, z3, z4⟩ := cells5f HF.out.2.2.2.1
                have h1 : ((wr).setCell ⟨b8, 3, none⟩ (.int .i64 c)).heap[b8]? = some (.cells #[.int .i64 mn, .int .i64 a, .int .i64 b, .int .i64 c, .int .i64 d] 52 (0, 0)) := set_blk _ HF.out.2.2.2.1
                have cT : Chg (fun q => q = b8) wr ((wr).setCell ⟨b8, 3, none⟩ (.int .i64 c)) := (Chg.refl (fun q => q = b8) wr).setCell (p := ⟨b8, 3, none⟩) (.inl rfl) _
                have HF3 : Hid (((wr).setCell ⟨b8, 3, none⟩ (.int .i64 c)).heap[w.heap.size]? = some (.cells #[.int .i64 n, .int .i64 a, .int .i64 b, .int .i64 c, .int .i64 d] 52 (0, 0)) ∧ ((wr).setCell ⟨b8, 3, none⟩ (.int .i64 c)).heap[w.heap.size + 1]? = some (.cells #[.int .i64 3, .int .u8 yb, .int .i64 yl, .int .i64 0] 33 (0, 0)) ∧ ((wr).setCell ⟨b8, 3, none⟩ (.int .i64 c)).heap[w.heap.size + 1 + 1]? = some (.cells #[.int .i64 0, .int .i64 0, .int .i64 0, .int .i64 0, .int .i64 0] 52 (0, 0)) ∧ ((wr).setCell ⟨b8, 3, none⟩ (.int .i64 c)).heap[b8]? = some (.cells #[.int .i64 mn, .int .i64 a, .int .i64 b, .int .i64 c, .int .i64 d] 52 (0, 0)) ∧ Chg (fun _ => False) w ((wr).setCell ⟨b8, 3, none⟩ (.int .i64 c))) := ⟨blk_keep HF.out.1 cT (by omega), blk_keep HF.out.2.1 cT (by omega), blk_keep HF.out.2.2.1 cT (by omega), h1, HF.out.2.2.2.2.trans cT (fun z e => .inr (by omega))⟩
                clear h1 cT HF
                go_wp2_with fail
                go_roundw
                case rel => exact .inr (.inr (.inr (.inl ⟨rfl, rfl, HF3.out⟩)))
                case measure => simp [intOf]
              · obtain ⟨y0, y1, y2, y3⟩ := cells4y HF.out.2.1
                obtain ⟨s0, s1, s2, s3, s4⟩ := cells5 HF.out.1
                obtain ⟨x0, x1, x2, x3, x4⟩ := cells5 HF.out.2.2.2.1
                obtain ⟨z0, z1, z2, z3, z4⟩ := cells5f HF.out.2.2.2.1
                have h1 : ((wr).setCell ⟨b8, 4, none⟩ (.int .i64 d)).heap[b8]? = some (.cells #[.int .i64 mn, .int .i64 a, .int .i64 b, .int .i64 c, .int .i64 d] 52 (0, 0)) := set_blk _ HF.out.2.2.2.1
                have cT : Chg (fun q => q = b8) wr ((wr).setCell ⟨b8, 4, none⟩ (.int .i64 d)) := (Chg.refl (fun q => q = b8) wr).setCell (p := ⟨b8, 4, none⟩) (.inl rfl) _
                have HF3 : Hid (((wr).setCell ⟨b8, 4, none⟩ (.int .i64 d)).heap[w.heap.size]? = some (.cells #[.int .i64 n, .int .i64 a, .int .i64 b, .int .i64 c, .int .i64 d] 52 (0, 0)) ∧ ((wr).setCell ⟨b8, 4, none⟩ (.int .i64 d)).heap[w.heap.size + 1]? = some (.cells #[.int .i64 3, .int .u8 yb, .int .i64 yl, .int .i64 0] 33 (0, 0)) ∧ ((wr).setCell ⟨b8, 4, none⟩ (.int .i64 d)).heap[w.heap.size + 1 + 1]? = some (.cells #[.int .i64 0, .int .i64 0, .int .i64 0, .int .i64 0, .int .i64 0] 52 (0, 0)) ∧ ((wr).setCell ⟨b8, 4, none⟩ (.int .i64 d)).heap[b8]? = some (.cells #[.int .i64 mn, .int .i64 a, .int .i64 b, .int .i64 c, .int .i64 d] 52 (0, 0)) ∧ Chg (fun _ => False) w ((wr).setCell ⟨b8, 4, none⟩ (.int .i64 d))) := ⟨blk_keep HF.out.1 cT (by omega), blk_keep HF.out.2.1 cT (by omega), blk_keep HF.out.2.2.1 cT (by omega), h1, HF.out.2.2.2.2.trans cT (fun z e => .inr (by omega))⟩
                clear h1 cT HF
                go_wp2_with fail
                go_roundw
                case rel => exact .inr (.inr (.inr (.inr (⟨rfl, rfl, HF3.out⟩))))
                case measure => simp [intOf]
              · skip
                obtain ⟨_, _, hz, ht, hcc⟩ := HF.out
                obtain ⟨t0, t1, t2, t3, t4⟩ := cells5 ht
                obtain ⟨⟨p0, f0⟩, ⟨p1, f1⟩, ⟨p2, f2⟩, ⟨p3, f3⟩, ⟨p4, f4⟩, hblk, hchg⟩ := put5_of hz (.int .i64 mn) (.int .i64 a) (.int .i64 b) (.int .i64 c) (.int .i64 d)
                have HE : Hid _ := cells5 hblk
                have HCE : Hid (Chg (fun _ => False) w _) := hcc.trans hchg (fun z e => .inr (by omega))
                clear hz ht hcc hblk hchg
                go_wp2
                obtain ⟨q0, q1, q2, q3, q4⟩ := HE.out
                refine bodyPost_ret (v := .tuple #[.agg #[.int .i64 mn, .int .i64 a, .int .i64 b, .int .i64 c, .int .i64 d], .int .i64 0]) (by simp [results, Tryd.results45, go_sem, q0, q1, q2, q3, q4]) rfl ?_
                exact ⟨by rw [HNX.out]; rfl, HCE.out⟩
          · have h1 : ((Wt).setCell ⟨b8, 1, none⟩ (.int .i64 b)).heap[b8]? = some (.cells #[.int .i64 mn, .int .i64 b, .int .i64 b, .int .i64 c, .int .i64 d] 52 (0, 0)) := set_blk _ HT3.out
            obtain ⟨_, x1, _⟩ := cells5 HT3.out
            obtain ⟨_, z1, _⟩ := cells5f HT3.out
            have cT : Chg (fun q => q = b8) Wt ((Wt).setCell ⟨b8, 1, none⟩ (.int .i64 b)) := (Chg.refl (fun q => q = b8) Wt).setCell (p := ⟨b8, 1, none⟩) (.inl rfl) _
            have HF2 : Hid (((Wt).setCell ⟨b8, 1, none⟩ (.int .i64 b)).heap[w.heap.size]? = some (.cells #[.int .i64 n, .int .i64 a, .int .i64 b, .int .i64 c, .int .i64 d] 52 (0, 0)) ∧ ((Wt).setCell ⟨b8, 1, none⟩ (.int .i64 b)).heap[w.heap.size + 1]? = some (.cells #[.int .i64 3, .int .u8 yb, .int .i64 yl, .int .i64 1] 33 (0, 0)) ∧ ((Wt).setCell ⟨b8, 1, none⟩ (.int .i64 b)).heap[w.heap.size + 1 + 1]? = some (.cells #[.int .i64 0, .int .i64 0, .int .i64 0, .int .i64 0, .int .i64 0] 52 (0, 0)) ∧ ((Wt).setCell ⟨b8, 1, none⟩ (.int .i64 b)).heap[b8]? = some (.cells #[.int .i64 mn, .int .i64 b, .int .i64 b, .int .i64 c, .int .i64 d] 52 (0, 0)) ∧ Chg (fun _ => False) w ((Wt).setCell ⟨b8, 1, none⟩ (.int .i64 b))) := ⟨blk_keep HFT.out.1 cT (by omega), blk_keep HFT.out.2.1 cT (by omega), blk_keep HFT.out.2.2.1 cT (by omega), h1, HFT.out.2.2.2.2.trans cT (fun z e => .inr (by omega))⟩
            clear h1 cT HT3 HFT
            go_wp2_with fail
            generalize (Wt).setCell ⟨b8, 1, none⟩ (.int .i64 b) = We at *
            clear y0 y1 y2 y3 s0 s1 s2 s3 s4
            go_loopw [9, 10] (fun v1 v2 wr => (v1 = .int .i64 0 ∧ v2 = .int .i64 0 ∧ Hid (wr.heap[w.heap.size]? = some (.cells #[.int .i64 n, .int .i64 a, .int .i64 b, .int .i64 c, .int .i64 d] 52 (0, 0)) ∧ wr.heap[w.heap.size + 1]? = some (.cells #[.int .i64 3, .int .u8 yb, .int .i64 yl, .int .i64 1] 33 (0, 0)) ∧ wr.heap[w.heap.size + 1 + 1]? = some (.cells #[.int .i64 0, .int .i64 0, .int .i64 0, .int .i64 0, .int .i64 0] 52 (0, 0)) ∧ wr.heap[b8]? = some (.cells #[.int .i64 mn, .int .i64 b, .int .i64 b, .int .i64 c, .int .i64 d] 52 (0, 0)) ∧ Chg (fun _ => False) w wr)) ∨ (v1 = .int .i64 1 ∧ v2 = .int .i64 1 ∧ Hid (wr.heap[w.heap.size]? = some (.cells #[.int .i64 n, .int .i64 a, .int .i64 b, .int .i64 c, .int .i64 d] 52 (0, 0)) ∧ wr.heap[w.heap.size + 1]? = some (.cells #[.int .i64 3, .int .u8 yb, .int .i64 yl, .int .i64 1] 33 (0, 0)) ∧ wr.heap[w.heap.size + 1 + 1]? = some (.cells #[.int .i64 0, .int .i64 0, .int .i64 0, .int .i64 0, .int .i64 0] 52 (0, 0)) ∧ wr.heap[b8]? = some (.cells #[.int .i64 mn, .int .i64 b, .int .i64 a, .int .i64 c, .int .i64 d] 52 (0, 0)) ∧ Chg (fun _ => False) w wr)) ∨ (v1 = .int .i64 1 ∧ v2 = .int .i64 2 ∧ Hid (wr.heap[w.heap.size]? = some (.cells #[.int .i64 n, .int .i64 a, .int .i64 b, .int .i64 c, .int .i64 d] 52 (0, 0)) ∧ wr.heap[w.heap.size + 1]? = some (.cells #[.int .i64 3, .int .u8 yb, .int .i64 yl, .int .i64 1] 33 (0, 0)) ∧ wr.heap[w.heap.size + 1 + 1]? = some (.cells #[.int .i64 0, .int .i64 0, .int .i64 0, .int .i64 0, .int .i64 0] 52 (0, 0)) ∧ wr.heap[b8]? = some (.cells #[.int .i64 mn, .int .i64 b, .int .i64 a, .int .i64 c, .int .i64 d] 52 (0, 0)) ∧ Chg (fun _ => False) w wr)) ∨ (v1 = .int .i64 2 ∧ v2 = .int .i64 3 ∧ Hid (wr.heap[w.heap.size]? = some (.cells #[.int .i64 n, .int .i64 a, .int .i64 b, .int .i64 c, .int .i64 d] 52 (0, 0)) ∧ wr.heap[w.heap.size + 1]? = some (.cells #[.int .i64 3, .int .u8 yb, .int .i64 yl, .int .i64 1] 33 (0, 0)) ∧ wr.heap[w.heap.size + 1 + 1]? = some (.cells #[.int .i64 0, .int .i64 0, .int .i64 0, .int .i64 0, .int .i64 0] 52 (0, 0)) ∧ wr.heap[b8]? = some (.cells #[.int .i64 mn, .int .i64 b, .int .i64 a, .int .i64 c, .int .i64 d] 52 (0, 0)) ∧ Chg (fun _ => False) w wr)) ∨ (v1 = .int .i64 3 ∧ v2 = .int .i64 4 ∧ Hid (wr.heap[w.heap.size]? = some (.cells #[.int .i64 n, .int .i64 a, .int .i64 b, .int .i64 c, .int .i64 d] 52 (0, 0)) ∧ wr.heap[w.heap.size + 1]? = some (.cells #[.int .i64 3, .int .u8 yb, .int .i64 yl, .int .i64 1] 33 (0, 0)) ∧ wr.heap[w.heap.size + 1 + 1]? = some (.cells #[.int .i64 0, .int .i64 0, .int .i64 0, .int .i64 0, .int .i64 0] 52 (0, 0)) ∧ wr.heap[b8]? = some (.cells #[.int .i64 mn, .int .i64 b, .int .i64 a, .int .i64 c, .int .i64 d] 52 (0, 0)) ∧ Chg (fun _ => False) w wr))) (fun _ v2 _ => 4 - (intOf v2).toNat)
            case atStart => exact .inl ⟨rfl, rfl, HF2.out⟩
            case round =>
              clear HF2
              rcases hrel with ⟨rfl, rfl, HF⟩ | ⟨rfl, rfl, HF⟩ | ⟨rfl, rfl, HF⟩ | ⟨rfl, rfl, HF⟩ | ⟨rfl, rfl, HF⟩
              · obtain ⟨y0, y1, y2, y3⟩ := cells4y HF.out.2.1
                obtain ⟨s0, s1, s2, s3, s4⟩ := cells5 HF.out.1
                obtain ⟨x0, x1, x2, x3, x4⟩ := cells5 HF.out.2.2.2.1
                obtain ⟨z0, z1, z2, z3, z4⟩ := cells5f HF.out.2.2.2.1
                have h1 : ((wr).setCell ⟨b8, 2, none⟩ (.int .i64 a)).heap[b8]? = some (.cells #[.int .i64 mn, .int .i64 b, .int .i64 a, .int .i64 c, .int .i64 d] 52 (0, 0)) := set_blk _ HF.out.2.2.2.1
                have cT : Chg (fun q => q = b8) wr ((wr).setCell ⟨b8, 2, none⟩ (.int .i64 a)) := (Chg.refl (fun q => q = b8) wr).setCell (p := ⟨b8, 2, none⟩) (.inl rfl) _
                have HF3 : Hid (((wr).setCell ⟨b8, 2, none⟩ (.int .i64 a)).heap[w.heap.size]? = some (.cells #[.int .i64 n, .int .i64 a, .int .i64 b, .int .i64 c, .int .i64 d] 52 (0, 0)) ∧ ((wr).setCell ⟨b8, 2, none⟩ (.int .i64 a)).heap[w.heap.size + 1]? = some (.cells #[.int .i64 3, .int .u8 yb, .int .i64 yl, .int .i64 1] 33 (0, 0)) ∧ ((wr).setCell ⟨b8, 2, none⟩ (.int .i64 a)).heap[w.heap.size + 1 + 1]? = some (.cells #[.int .i64 0, .int .i64 0, .int .i64 0, .int .i64 0, .int .i64 0] 52 (0, 0)) ∧ ((wr).setCell ⟨b8, 2, none⟩ (.int .i64 a)).heap[b8]? = some (.cells #[.int .i64 mn, .int .i64 b, .int .i64 a, .int .i64 c, .int .i64 d] 52 (0, 0)) ∧ Chg (fun _ => False) w ((wr).setCell ⟨b8, 2, none⟩ (.int .i64 a))) := ⟨blk_keep HF.out.1 cT (by omega), blk_keep HF.out.2.1 cT (by omega), blk_keep HF.out.2.2.1 cT (by omega), h1, HF.out.2.2.2.2.trans cT (fun z e => .inr (by omega))⟩
                clear h1 cT HF
                go_wp2_with fail
                go_roundw
                case rel => exact .inr (.inl ⟨rfl, rfl, HF3.out⟩)
                case measure => simp [intOf]
              · obtain ⟨y0, y1, y2, y3⟩ := cells4y HF.out.2.1
                go_wp2_with fail
                go_roundw
                case rel => exact .inr (.inr (.inl ⟨rfl, rfl, HF.out⟩))
                case measure => simp [intOf]
              · obtain ⟨y0, y1, y2, y3⟩ := cells4y HF.out.2.1
                obtain ⟨s0, s1, s2, s3, s4⟩ := cells5 HF.out.1
                obtain ⟨x0, x1, x2, x3, x4⟩ := cells5 HF.out.2.2.2.1
                obtain ⟨z0, z1, z2, z3, z4⟩ := cells5f HF.out.2.2.2.1
                have h1 : ((wr).setCell ⟨b8, 3, none⟩ (.int .i64 c)).heap[b8]? = some (.cells #[.int .i64 mn, .int .i64 b, .int .i64 a, .int .i64 c, .int .i64 d] 52 (0, 0)) := set_blk _ HF.out.2.2.2.1
                have cT : Chg (fun q => q = b8) wr ((wr).setCell ⟨b8, 3, none⟩ (.int .i64 c)) := (Chg.refl (fun q => q = b8) wr).setCell (p := ⟨b8, 3, none⟩) (.inl rfl) _
                have HF3 : Hid (((wr).setCell ⟨b8, 3, none⟩ (.int .i64 c)).heap[w.heap.size]? = some (.cells #[.int .i64 n, .int .i64 a, .int .i64 b, .int .i64 c, .int .i64 d] 52 (0, 0)) ∧ ((wr).setCell ⟨b8, 3, none⟩ (.int .i64 c)).heap[w.heap.size + 1]? = some (.cells #[.int .i64 3, .int .u8 yb, .int .i64 yl, .int .i64 1] 33 (0, 0)) ∧ ((wr).setCell ⟨b8, 3, none⟩ (.int .i64 c)).heap[w.heap.size + 1 + 1]? = some (.cells #[.int .i64 0, .int .i64 0, .int .i64 0, .int .i64 0, .int .i64 0] 52 (0, 0)) ∧ ((wr).setCell ⟨b8, 3, none⟩ (.int .i64 c)).heap[b8]? = some (.cells #[.int .i64 mn, .int .i64 b, .int .i64 a, .int .i64 c, .int .i64 d] 52 (0, 0)) ∧ Chg (fun _ => False) w ((wr).setCell ⟨b8, 3, none⟩ (.int .i64 c))) := ⟨blk_keep HF.out.1 cT (by omega), blk_keep HF.out.2.1 cT (by omega), blk_keep HF.out.2.2.1 cT (by omega), h1, HF.out.2.2.2.2.trans cT (fun z e => .inr (by omega))⟩
                clear h1 cT HF
                go_wp2_with fail
                go_roundw
                case rel => exact .inr (.inr (.inr (.inl ⟨rfl, rfl, HF3.out⟩)))
                case measure => simp [intOf]
              · obtain ⟨y0, y1, y2, y3⟩ := cells4y HF.out.2.1
                obtain ⟨s0, s1, s2, s3, s4⟩ := cells5 HF.out.1
                obtain ⟨x0, x1, x2, x3, x4⟩ := cells5 HF.out.2.2.2.1
                obtain ⟨z0, z1, z2, z3, z4⟩ := cells5f HF.out.2.2.2.1
                have h1 : ((wr).setCell ⟨b8, 4, none⟩ (.int .i64 d)).heap[b8]? = some (.cells #[.int .i64 mn, .int .i64 b, .int .i64 a, .int .i64 c, .int .i64 d] 52 (0, 0)) := set_blk _ HF.out.2.2.2.1
                have cT : Chg (fun q => q = b8) wr ((wr).setCell ⟨b8, 4, none⟩ (.int .i64 d)) := (Chg.refl (fun q => q = b8) wr).setCell (p := ⟨b8, 4, none⟩) (.inl rfl) _
                have HF3 : Hid (((wr).setCell ⟨b8, 4, none⟩ (.int .i64 d)).heap[w.heap.size]? = some (.cells #[.int .i64 n, .int .i64 a, .int .i64 b, .int .i64 c, .int .i64 d] 52 (0, 0)) ∧ ((wr).setCell ⟨b8, 4, none⟩ (.int .i64 d)).heap[w.heap.size + 1]? = some (.cells #[.int .i64 3, .int .u8 yb, .int .i64 yl, .int .i64 1] 33 (0, 0)) ∧ ((wr).setCell ⟨b8, 4, none⟩ (.int .i64 d)).heap[w.heap.size + 1 + 1]? = some (.cells #[.int .i64 0, .int .i64 0, .int .i64 0, .int .i64 0, .int .i64 0] 52 (0, 0)) ∧ ((wr).setCell ⟨b8, 4, none⟩ (.int .i64 d)).heap[b8]? = some (.cells #[.int .i64 mn, .int .i64 b, .int .i64 a, .int .i64 c, .int .i64 d] 52 (0, 0)) ∧ Chg (fun _ => False) w ((wr).setCell ⟨b8, 4, none⟩ (.int .i64 d))) := ⟨blk_keep HF.out.1 cT (by omega), blk_keep HF.out.2.1 cT (by omega), blk_keep HF.out.2.2.1 cT (by omega), h1, HF.out.2.2.2.2.trans cT (fun z e => .inr (by omega))⟩
                clear h1 cT HF
                go_wp2_with fail
                go_roundw
                case rel => exact .inr (.inr (.inr (.inr (⟨rfl, rfl, HF3.out⟩))))
                case measure => simp [intOf]
              · skip
                obtain ⟨_, _, hz, ht, hcc⟩ := HF.out
                obtain ⟨t0, t1, t2, t3, t4⟩ := cells5 ht
                obtain ⟨⟨p0, f0⟩, ⟨p1, f1⟩, ⟨p2, f2⟩, ⟨p3, f3⟩, ⟨p4, f4⟩, hblk, hchg⟩ := put5_of hz (.int .i64 mn) (.int .i64 b) (.int .i64 a) (.int .i64 c) (.int .i64 d)
                have HE : Hid _ := cells5 hblk
                have HCE : Hid (Chg (fun _ => False) w _) := hcc.trans hchg (fun z e => .inr (by omega))
                clear hz ht hcc hblk hchg
                go_wp2
                obtain ⟨q0, q1, q2, q3, q4⟩ := HE.out
                refine bodyPost_ret (v := .tuple #[.agg #[.int .i64 mn, .int .i64 b, .int .i64 a, .int .i64 c, .int .i64 d], .int .i64 0]) (by simp [results, Tryd.results45, go_sem, q0, q1, q2, q3, q4]) rfl ?_
                exact ⟨by rw [HNX.out]; rfl, HCE.out⟩
          · have h1 : ((Wt).setCell ⟨b8, 1, none⟩ (.int .i64 c)).heap[b8]? = some (.cells #[.int .i64 mn, .int .i64 c, .int .i64 b, .int .i64 c, .int .i64 d] 52 (0, 0)) := set_blk _ HT3.out
            obtain ⟨_, x1, _⟩ := cells5 HT3.out
            obtain ⟨_, z1, _⟩ := cells5f HT3.out
            have cT : Chg (fun q => q = b8) Wt ((Wt).setCell ⟨b8, 1, none⟩ (.int .i64 c)) := (Chg.refl (fun q => q = b8) Wt).setCell (p := ⟨b8, 1, none⟩) (.inl rfl) _
            have HF2 : Hid (((Wt).setCell ⟨b8, 1, none⟩ (.int .i64 c)).heap[w.heap.size]? = some (.cells #[.int .i64 n, .int .i64 a, .int .i64 b, .int .i64 c, .int .i64 d] 52 (0, 0)) ∧ ((Wt).setCell ⟨b8, 1, none⟩ (.int .i64 c)).heap[w.heap.size + 1]? = some (.cells #[.int .i64 3, .int .u8 yb, .int .i64 yl, .int .i64 2] 33 (0, 0)) ∧ ((Wt).setCell ⟨b8, 1, none⟩ (.int .i64 c)).heap[w.heap.size + 1 + 1]? = some (.cells #[.int .i64 0, .int .i64 0, .int .i64 0, .int .i64 0, .int .i64 0] 52 (0, 0)) ∧ ((Wt).setCell ⟨b8, 1, none⟩ (.int .i64 c)).heap[b8]? = some (.cells #[.int .i64 mn, .int .i64 c, .int .i64 b, .int .i64 c, .int .i64 d] 52 (0, 0)) ∧ Chg (fun _ => False) w ((Wt).setCell ⟨b8, 1, none⟩ (.int .i64 c))) := ⟨blk_keep HFT.out.1 cT (by omega), blk_keep HFT.out.2.1 cT (by omega), blk_keep HFT.out.2.2.1 cT (by omega), h1, HFT.out.2.2.2.2.trans cT (fun z e => .inr (by omega))⟩
            clear h1 cT HT3 HFT
            go_wp2_with fail
            generalize (Wt).setCell ⟨b8, 1, none⟩ (.int .i64 c) = We at *
            clear y0 y1 y2 y3 s0 s1 s2 s3 s4
            go_loopw [9, 10] (fun v1 v2 wr => (v1 = .int .i64 0 ∧ v2 = .int .i64 0 ∧ Hid (wr.heap[w.heap.size]? = some (.cells #[.int .i64 n, .int .i64 a, .int .i64 b, .int .i64 c, .int .i64 d] 52 (0, 0)) ∧ wr.heap[w.heap.size + 1]? = some (.cells #[.int .i64 3, .int .u8 yb, .int .i64 yl, .int .i64 2] 33 (0, 0)) ∧ wr.heap[w.heap.size + 1 + 1]? = some (.cells #[.int .i64 0, .int .i64 0, .int .i64 0, .int .i64 0, .int .i64 0] 52 (0, 0)) ∧ wr.heap[b8]? = some (.cells #[.int .i64 mn, .int .i64 c, .int .i64 b, .int .i64 c, .int .i64 d] 52 (0, 0)) ∧ Chg (fun _ => False) w wr)) ∨ (v1 = .int .i64 1 ∧ v2 = .int .i64 1 ∧ Hid (wr.heap[w.heap.size]? = some (.cells #[.int .i64 n, .int .i64 a, .int .i64 b, .int .i64 c, .int .i64 d] 52 (0, 0)) ∧ wr.heap[w.heap.size + 1]? = some (.cells #[.int .i64 3, .int .u8 yb, .int .i64 yl, .int .i64 2] 33 (0, 0)) ∧ wr.heap[w.heap.size + 1 + 1]? = some (.cells #[.int .i64 0, .int .i64 0, .int .i64 0, .int .i64 0, .int .i64 0] 52 (0, 0)) ∧ wr.heap[b8]? = some (.cells #[.int .i64 mn, .int .i64 c, .int .i64 a, .int .i64 c, .int .i64 d] 52 (0, 0)) ∧ Chg (fun _ => False) w wr)) ∨ (v1 = .int .i64 2 ∧ v2 = .int .i64 2 ∧ Hid (wr.heap[w.heap.size]? = some (.cells #[.int .i64 n, .int .i64 a, .int .i64 b, .int .i64 c, .int .i64 d] 52 (0, 0)) ∧ wr.heap[w.heap.size + 1]? = some (.cells #[.int .i64 3, .int .u8 yb, .int .i64 yl, .int .i64 2] 33 (0, 0)) ∧ wr.heap[w.heap.size + 1 + 1]? = some (.cells #[.int .i64 0, .int .i64 0, .int .i64 0, .int .i64 0, .int .i64 0] 52 (0, 0)) ∧ wr.heap[b8]? = some (.cells #[.int .i64 mn, .int .i64 c, .int .i64 a, .int .i64 b, .int .i64 d] 52 (0, 0)) ∧ Chg (fun _ => False) w wr)) ∨ (v1 = .int .i64 2 ∧ v2 = .int .i64 3 ∧ Hid (wr.heap[w.heap.size]? = some (.cells #[.int .i64 n, .int .i64 a, .int .i64 b, .int .i64 c, .int .i64 d] 52 (0, 0)) ∧ wr.heap[w.heap.size + 1]? = some (.cells #[.int .i64 3, .int .u8 yb, .int .i64 yl, .int .i64 2] 33 (0, 0)) ∧ wr.heap[w.heap.size + 1 + 1]? = some (.cells #[.int .i64 0, .int .i64 0, .int .i64 0, .int .i64 0, .int .i64 0] 52 (0, 0)) ∧ wr.heap[b8]? = some (.cells #[.int .i64 mn, .int .i64 c, .int .i64 a, .int .i64 b, .int .i64 d] 52 (0, 0)) ∧ Chg (fun _ => False) w wr)) ∨ (v1 = .int .i64 3 ∧ v2 = .int .i64 4 ∧ Hid (wr.heap[w.heap.size]? = some (.cells #[.int .i64 n, .int .i64 a, .int .i64 b, .int .i64 c, .int .i64 d] 52 (0, 0)) ∧ wr.heap[w.heap.size + 1]? = some (.cells #[.int .i64 3, .int .u8 yb, .int .i64 yl, .int .i64 2] 33 (0, 0)) ∧ wr.heap[w.heap.size + 1 + 1]? = some (.cells #[.int .i64 0, .int .i64 0, .int .i64 0, .int .i64 0, .int .i64 0] 52 (0, 0)) ∧ wr.heap[b8]? = some (.cells #[.int .i64 mn, .int .i64 c, .int .i64 a, .int .i64 b, .int .i64 d] 52 (0, 0)) ∧ Chg (fun _ => False) w wr))) (fun _ v2 _ => 4 - (intOf v2).toNat)
            case atStart => exact .inl ⟨rfl, rfl, HF2.out⟩
            case round =>
              clear HF2
              rcases hrel with ⟨rfl, rfl, HF⟩ | ⟨rfl, rfl, HF⟩ | ⟨rfl, rfl, HF⟩ | ⟨rfl, rfl, HF⟩ | ⟨rfl, rfl, HF⟩
              · obtain ⟨y0, y1, y2, y3⟩ := cells4y HF.out.2.1
                obtain ⟨s0, s1, s2, s3, s4⟩ := cells5 HF.out.1
                obtain ⟨x0, x1, x2, x3, x4⟩ := cells5 HF.out.2.2.2.1
                obtain ⟨z0, z1, z2, z3, z4⟩ := cells5f HF.out.2.2.2.1
                have h1 : ((wr).setCell ⟨b8, 2, none⟩ (.int .i64 a)).heap[b8]? = some (.cells #[.int .i64 mn, .int .i64 c, .int .i64 a, .int .i64 c, .int .i64 d] 52 (0, 0)) := set_blk _ HF.out.2.2.2.1
                have cT : Chg (fun q => q = b8) wr ((wr).setCell ⟨b8, 2, none⟩ (.int .i64 a)) := (Chg.refl (fun q => q = b8) wr).setCell (p := ⟨b8, 2, none⟩) (.inl rfl) _
                have HF3 : Hid (((wr).setCell ⟨b8, 2, none⟩ (.int .i64 a)).heap[w.heap.size]? = some (.cells #[.int .i64 n, .int .i64 a, .int .i64 b, .int .i64 c, .int .i64 d] 52 (0, 0)) ∧ ((wr).setCell ⟨b8, 2, none⟩ (.int .i64 a)).heap[w.heap.size + 1]? = some (.cells #[.int .i64 3, .int .u8 yb, .int .i64 yl, .int .i64 2] 33 (0, 0)) ∧ ((wr).setCell ⟨b8, 2, none⟩ (.int .i64 a)).heap[w.heap.size + 1 + 1]? = some (.cells #[.int .i64 0, .int .i64 0, .int .i64 0, .int .i64 0, .int .i64 0] 52 (0, 0)) ∧ ((wr).setCell ⟨b8, 2, none⟩ (.int .i64 a)).heap[b8]? = some (.cells #[.int .i64 mn, .int .i64 c, .int .i64 a, .int .i64 c, .int .i64 d] 52 (0, 0)) ∧ Chg (fun _ => False) w ((wr).setCell ⟨b8, 2, none⟩ (.int .i64 a))) := ⟨blk_keep HF.out.1 cT (by omega), blk_keep HF.out.2.1 cT (by omega), blk_keep HF.out.2.2.1 cT (by omega), h1, HF.out.2.2.2.2.trans cT (fun z e => .inr (by omega))⟩
                clear h1 cT HF
                go_wp2_with fail
                go_roundw
                case rel => exact .inr (.inl ⟨rfl, rfl, HF3.out⟩)
                case measure => simp [intOf]
              · obtain ⟨y0, y1, y2, y3⟩ := cells4y HF.out.2.1
                obtain ⟨s0, s1, s2, s3, s4⟩ := cells5 HF.out.1
                obtain ⟨x0, x1, x2, x3, x4⟩ := cells5 HF.out.2.2.2.1
                obtain ⟨z0, z1, z2, z3, z4⟩ := cells5f HF.out.2.2.2.1
                have h1 : ((wr).setCell ⟨b8, 3, none⟩ (.int .i64 b)).heap[b8]? = some (.cells #[.int .i64 mn, .int .i64 c, .int .i64 a, .int .i64 b, .int .i64 d] 52 (0, 0)) := set_blk _ HF.out.2.2.2.1
                have cT : Chg (fun q => q = b8) wr ((wr).setCell ⟨b8, 3, none⟩ (.int .i64 b)) := (Chg.refl (fun q => q = b8) wr).setCell (p := ⟨b8, 3, none⟩) (.inl rfl) _
                have HF3 : Hid (((wr).setCell ⟨b8, 3, none⟩ (.int .i64 b)).heap[w.heap.size]? = some (.cells #[.int .i64 n, .int .i64 a, .int .i64 b, .int .i64 c, .int .i64 d] 52 (0, 0)) ∧ ((wr).setCell ⟨b8, 3, none⟩ (.int .i64 b)).heap[w.heap.size + 1]? = some (.cells #[.int .i64 3, .int .u8 yb, .int .i64 yl, .int .i64 2] 33 (0, 0)) ∧ ((wr).setCell ⟨b8, 3, none⟩ (.int .i64 b)).heap[w.heap.size + 1 + 1]? = some (.cells #[.int .i64 0, .int .i64 0, .int .i64 0, .int .i64 0, .int .i64 0] 52 (0, 0)) ∧ ((wr).setCell ⟨b8, 3, none⟩ (.int .i64 b)).heap[b8]? = some (.cells #[.int .i64 mn, .int .i64 c, .int .i64 a, .int .i64 b, .int .i64 d] 52 (0, 0)) ∧ Chg (fun _ => False) w ((wr).setCell ⟨b8, 3, none⟩ (.int .i64 b))) := ⟨blk_keep HF.out.1 cT (by omega), blk_keep HF.out.2.1 cT (by omega), blk_keep HF.out.2.2.1 cT (by omega), h1, HF.out.2.2.2.2.trans cT (fun z e => .inr (by omega))⟩
                clear h1 cT HF
                go_wp2_with fail
                go_roundw
                case rel => exact .inr (.inr (.inl ⟨rfl, rfl, HF3.out⟩))
                case measure => simp [intOf]
              · obtain ⟨y0, y1, y2, y3⟩ := cells4y HF.out.2.1
                go_wp2_with fail
                go_roundw
                case rel => exact .inr (.inr (.inr (.inl ⟨rfl, rfl, HF.out⟩)))
                case measure => simp [intOf]
              · obtain ⟨y0, y1, y2, y3⟩ := cells4y HF.out.2.1
                obtain ⟨s0, s1, s2, s3, s4⟩ := cells5 HF.out.1
                obtain ⟨x0, x1, x2, x3, x4⟩ := cells5 HF.out.2.2.2.1
                obtain ⟨z0, z1, z2, z3, z4⟩ := cells5f HF.out.2.2.2.1
                have h1 : ((wr).setCell ⟨b8, 4, none⟩ (.int .i64 d)).heap[b8]? = some (.cells #[.int .i64 mn, .int .i64 c, .int .i64 a, .int .i64 b, .int .i64 d] 52 (0, 0)) := set_blk _ HF.out.2.2.2.1
                have cT : Chg (fun q => q = b8) wr ((wr).setCell ⟨b8, 4, none⟩ (.int .i64 d)) := (Chg.refl (fun q => q = b8) wr).setCell (p := ⟨b8, 4, none⟩) (.inl rfl) _
                have HF3 : Hid (((wr).setCell ⟨b8, 4, none⟩ (.int .i64 d)).heap[w.heap.size]? = some (.cells #[.int .i64 n, .int .i64 a, .int .i64 b, .int .i64 c, .int .i64 d] 52 (0, 0)) ∧ ((wr).setCell ⟨b8, 4, none⟩ (.int .i64 d)).heap[w.heap.size + 1]? = some (.cells #[.int .i64 3, .int .u8 yb, .int .i64 yl, .int .i64 2] 33 (0, 0)) ∧ ((wr).setCell ⟨b8, 4, none⟩ (.int .i64 d)).heap[w.heap.size + 1 + 1]? = some (.cells #[.int .i64 0, .int .i64 0, .int .i64 0, .int .i64 0, .int .i64 0] 52 (0, 0)) ∧ ((wr).setCell ⟨b8, 4, none⟩ (.int .i64 d)).heap[b8]? = some (.cells #[.int .i64 mn, .int .i64 c, .int .i64 a, .int .i64 b, .int .i64 d] 52 (0, 0)) ∧ Chg (fun _ => False) w ((wr).setCell ⟨b8, 4, none⟩ (.int .i64 d))) := ⟨blk_keep HF.out.1 cT (by omega), blk_keep HF.out.2.1 cT (by omega), blk_keep HF.out.2.2.1 cT (by omega), h1, HF.out.2.2.2.2.trans cT (fun z e => .inr (by omega))⟩
                clear h1 cT HF
                go_wp2_with fail
                go_roundw
                case rel => exact .inr (.inr (.inr (.inr (⟨rfl, rfl, HF3.out⟩))))
                case measure => simp [intOf]
              · skip
                obtain ⟨_, _, hz, ht, hcc⟩ := HF.out
                obtain ⟨t0, t1, t2, t3, t4⟩ := cells5 ht
                obtain ⟨⟨p0, f0⟩, ⟨p1, f1⟩, ⟨p2, f2⟩, ⟨p3, f3⟩, ⟨p4, f4⟩, hblk, hchg⟩ := put5_of hz (.int .i64 mn) (.int .i64 c) (.int .i64 a) (.int .i64 b) (.int .i64 d)
                have HE : Hid _ := cells5 hblk
                have HCE : Hid (Chg (fun _ => False) w _) := hcc.trans hchg (fun z e => .inr (by omega))
                clear hz ht hcc hblk hchg
                go_wp2
                obtain ⟨q0, q1, q2, q3, q4⟩ := HE.out
                refine bodyPost_ret (v := .tuple #[.agg #[.int .i64 mn, .int .i64 c, .int .i64 a, .int .i64 b, .int .i64 d], .int .i64 0]) (by simp [results, Tryd.results45, go_sem, q0, q1, q2, q3, q4]) rfl ?_
                exact ⟨by rw [HNX.out]; rfl, HCE.out⟩
          · have h1 : ((Wt).setCell ⟨b8, 1, none⟩ (.int .i64 d)).heap[b8]? = some (.cells #[.int .i64 mn, .int .i64 d, .int .i64 b, .int .i64 c, .int .i64 d] 52 (0, 0)) := set_blk _ HT3.out
            obtain ⟨_, x1, _⟩ := cells5 HT3.out
            obtain ⟨_, z1, _⟩ := cells5f HT3.out
            have cT : Chg (fun q => q = b8) Wt ((Wt).setCell ⟨b8, 1, none⟩ (.int .i64 d)) := (Chg.refl (fun q => q = b8) Wt).setCell (p := ⟨b8, 1, none⟩) (.inl rfl) _
            have HF2 : Hid (((Wt).setCell ⟨b8, 1, none⟩ (.int .i64 d)).heap[w.heap.size]? = some (.cells #[.int .i64 n, .int .i64 a, .int .i64 b, .int .i64 c, .int .i64 d] 52 (0, 0)) ∧ ((Wt).setCell ⟨b8, 1, none⟩ (.int .i64 d)).heap[w.heap.size + 1]? = some (.cells #[.int .i64 3, .int .u8 yb, .int .i64 yl, .int .i64 3] 33 (0, 0)) ∧ ((Wt).setCell ⟨b8, 1, none⟩ (.int .i64 d)).heap[w.heap.size + 1 + 1]? = some (.cells #[.int .i64 0, .int .i64 0, .int .i64 0, .int .i64 0, .int .i64 0] 52 (0, 0)) ∧ ((Wt).setCell ⟨b8, 1, none⟩ (.int .i64 d)).heap[b8]? = some (.cells #[.int .i64 mn, .int .i64 d, .int .i64 b, .int .i64 c, .int .i64 d] 52 (0, 0)) ∧ Chg (fun _ => False) w ((Wt).setCell ⟨b8, 1, none⟩ (.int .i64 d))) := ⟨blk_keep HFT.out.1 cT (by omega), blk_keep HFT.out.2.1 cT (by omega), blk_keep HFT.out.2.2.1 cT (by omega), h1, HFT.out.2.2.2.2.trans cT (fun z e => .inr (by omega))⟩
            clear h1 cT HT3 HFT
            go_wp2_with fail
            generalize (Wt).setCell ⟨b8, 1, none⟩ (.int .i64 d) = We at *
            clear y0 y1 y2 y3 s0 s1 s2 s3 s4
            go_loopw [9, 10] (fun v1 v2 wr => (v1 = .int .i64 0 ∧ v2 = .int .i64 0 ∧ Hid (wr.heap[w.heap.size]? = some (.cells #[.int .i64 n, .int .i64 a, .int .i64 b, .int .i64 c, .int .i64 d] 52 (0, 0)) ∧ wr.heap[w.heap.size + 1]? = some (.cells #[.int .i64 3, .int .u8 yb, .int .i64 yl, .int .i64 3] 33 (0, 0)) ∧ wr.heap[w.heap.size + 1 + 1]? = some (.cells #[.int .i64 0, .int .i64 0, .int .i64 0, .int .i64 0, .int .i64 0] 52 (0, 0)) ∧ wr.heap[b8]? = some (.cells #[.int .i64 mn, .int .i64 d, .int .i64 b, .int .i64 c, .int .i64 d] 52 (0, 0)) ∧ Chg (fun _ => False) w wr)) ∨ (v1 = .int .i64 1 ∧ v2 = .int .i64 1 ∧ Hid (wr.heap[w.heap.size]? = some (.cells #[.int .i64 n, .int .i64 a, .int .i64 b, .int .i64 c, .int .i64 d] 52 (0, 0)) ∧ wr.heap[w.heap.size + 1]? = some (.cells #[.int .i64 3, .int .u8 yb, .int .i64 yl, .int .i64 3] 33 (0, 0)) ∧ wr.heap[w.heap.size + 1 + 1]? = some (.cells #[.int .i64 0, .int .i64 0, .int .i64 0, .int .i64 0, .int .i64 0] 52 (0, 0)) ∧ wr.heap[b8]? = some (.cells #[.int .i64 mn, .int .i64 d, .int .i64 a, .int .i64 c, .int .i64 d] 52 (0, 0)) ∧ Chg (fun _ => False) w wr)) ∨ (v1 = .int .i64 2 ∧ v2 = .int .i64 2 ∧ Hid (wr.heap[w.heap.size]? = some (.cells #[.int .i64 n, .int .i64 a, .int .i64 b, .int .i64 c, .int .i64 d] 52 (0, 0)) ∧ wr.heap[w.heap.size + 1]? = some (.cells #[.int .i64 3, .int .u8 yb, .int .i64 yl, .int .i64 3] 33 (0, 0)) ∧ wr.heap[w.heap.size + 1 + 1]? = some (.cells #[.int .i64 0, .int .i64 0, .int .i64 0, .int .i64 0, .int .i64 0] 52 (0, 0)) ∧ wr.heap[b8]? = some (.cells #[.int .i64 mn, .int .i64 d, .int .i64 a, .int .i64 b, .int .i64 d] 52 (0, 0)) ∧ Chg (fun _ => False) w wr)) ∨ (v1 = .int .i64 3 ∧ v2 = .int .i64 3 ∧ Hid (wr.heap[w.heap.size]? = some (.cells #[.int .i64 n, .int .i64 a, .int .i64 b, .int .i64 c, .int .i64 d] 52 (0, 0)) ∧ wr.heap[w.heap.size + 1]? = some (.cells #[.int .i64 3, .int .u8 yb, .int .i64 yl, .int .i64 3] 33 (0, 0)) ∧ wr.heap[w.heap.size + 1 + 1]? = some (.cells #[.int .i64 0, .int .i64 0, .int .i64 0, .int .i64 0, .int .i64 0] 52 (0, 0)) ∧ wr.heap[b8]? = some (.cells #[.int .i64 mn, .int .i64 d, .int .i64 a, .int .i64 b, .int .i64 c] 52 (0, 0)) ∧ Chg (fun _ => False) w wr)) ∨ (v1 = .int .i64 3 ∧ v2 = .int .i64 4 ∧ Hid (wr.heap[w.heap.size]? = some (.cells #[.int .i64 n, .int .i64 a, .int .i64 b, .int .i64 c, .int .i64 d] 52 (0, 0)) ∧ wr.heap[w.heap.size + 1]? = some (.cells #[.int .i64 3, .int .u8 yb, .int .i64 yl, .int .i64 3] 33 (0, 0)) ∧ wr.heap[w.heap.size + 1 + 1]? = some (.cells #[.int .i64 0, .int .i64 0, .int .i64 0, .int .i64 0, .int .i64 0] 52 (0, 0)) ∧ wr.heap[b8]? = some (.cells #[.int .i64 mn, .int .i64 d, .int .i64 a, .int .i64 b, .int .i64 c] 52 (0, 0)) ∧ Chg (fun _ => False) w wr))) (fun _ v2 _ => 4 - (intOf v2).toNat)
            case atStart => exact .inl ⟨rfl, rfl, HF2.out⟩
            case round =>
              clear HF2
              rcases hrel with ⟨rfl, rfl, HF⟩ | ⟨rfl, rfl, HF⟩ | ⟨rfl, rfl, HF⟩ | ⟨rfl, rfl, HF⟩ | ⟨rfl, rfl, HF⟩
              · obtain ⟨y0, y1, y2, y3⟩ := cells4y HF.out.2.1
                obtain ⟨s0, s1, s2, s3, s4⟩ := cells5 HF.out.1
                obtain ⟨x0, x1, x2, x3, x4⟩ := cells5 HF.out.2.2.2.1
                obtain ⟨z0, z1, z2, z3, z4⟩ := cells5f HF.out.2.2.2.1
                have h1 : ((wr).setCell ⟨b8, 2, none⟩ (.int .i64 a)).heap[b8]? = some (.cells #[.int .i64 mn, .int .i64 d, .int .i64 a, .int .i64 c, .int .i64 d] 52 (0, 0)) := set_blk _ HF.out.2.2.2.1
                have cT : Chg (fun q => q = b8) wr ((wr).setCell ⟨b8, 2, none⟩ (.int .i64 a)) := (Chg.refl (fun q => q = b8) wr).setCell (p := ⟨b8, 2, none⟩) (.inl rfl) _
                have HF3 : Hid (((wr).setCell ⟨b8, 2, none⟩ (.int .i64 a)).heap[w.heap.size]? = some (.cells #[.int .i64 n, .int .i64 a, .int .i64 b, .int .i64 c, .int .i64 d] 52 (0, 0)) ∧ ((wr).setCell ⟨b8, 2, none⟩ (.int .i64 a)).heap[w.heap.size + 1]? = some (.cells #[.int .i64 3, .int .u8 yb, .int .i64 yl, .int .i64 3] 33 (0, 0)) ∧ ((wr).setCell ⟨b8, 2, none⟩ (.int .i64 a)).heap[w.heap.size + 1 + 1]? = some (.cells #[.int .i64 0, .int .i64 0, .int .i64 0, .int .i64 0, .int .i64 0] 52 (0, 0)) ∧ ((wr).setCell ⟨b8, 2, none⟩ (.int .i64 a)).heap[b8]? = some (.cells #[.int .i64 mn, .int .i64 d, .int .i64 a, .int .i64 c, .int .i64 d] 52 (0, 0)) ∧ Chg (fun _ => False) w ((wr).setCell ⟨b8, 2, none⟩ (.int .i64 a))) := ⟨blk_keep HF.out.1 cT (by omega), blk_keep HF.out.2.1 cT (by omega), blk_keep HF.out.2.2.1 cT (by omega), h1, HF.out.2.2.2.2.trans cT (fun z e => .inr (by omega))⟩
                clear h1 cT HF
                go_wp2_with fail
                go_roundw
                case rel => exact .inr (.inl ⟨rfl, rfl, HF3.out⟩)
                case measure => simp [intOf]
              · obtain ⟨y0, y1, y2, y3⟩ := cells4y HF.out.2.1
                obtain ⟨s0, s1, s2, s3, s4⟩ := cells5 HF.out.1
                obtain ⟨x0, x1, x2, x3, x4⟩ := cells5 HF.out.2.2.2.1
                obtain ⟨z0, z1, z2, z3, z4⟩ := cells5f HF.out.2.2.2.1
                have h1 : ((wr).setCell ⟨b8, 3, none⟩ (.int .i64 b)).heap[b8]? = some (.cells #[.int .i64 mn, .int .i64 d, .int .i64 a, .int .i64 b, .int .i64 d] 52 (0, 0)) := set_blk _ HF.out.2.2.2.1
                have cT : Chg (fun q => q = b8) wr ((wr).setCell ⟨b8, 3, none⟩ (.int .i64 b)) := (Chg.refl (fun q => q = b8) wr).setCell (p := ⟨b8, 3, none⟩) (.inl rfl) _
                have HF3 : Hid (((wr).setCell ⟨b8, 3, none⟩ (.int .i64 b)).heap[w.heap.size]? = some (.cells #[.int .i64 n, .int .i64 a, .int .i64 b, .int .i64 c, .int .i64 d] 52 (0, 0)) ∧ ((wr).setCell ⟨b8, 3, none⟩ (.int .i64 b)).heap[w.heap.size + 1]? = some (.cells #[.int .i64 3, .int .u8 yb, .int .i64 yl, .int .i64 3] 33 (0, 0)) ∧ ((wr).setCell ⟨b8, 3, none⟩ (.int .i64 b)).heap[w.heap.size + 1 + 1]? = some (.cells #[.int .i64 0, .int .i64 0, .int .i64 0, .int .i64 0, .int .i64 0] 52 (0, 0)) ∧ ((wr).setCell ⟨b8, 3, none⟩ (.int .i64 b)).heap[b8]? = some (.cells #[.int .i64 mn, .int .i64 d, .int .i64 a, .int .i64 b, .int .i64 d] 52 (0, 0)) ∧ Chg (fun _ => False) w ((wr).setCell ⟨b8, 3, none⟩ (.int .i64 b))) := ⟨blk_keep HF.out.1 cT (by omega), blk_keep HF.out.2.1 cT (by omega), blk_keep HF.out.2.2.1 cT (by omega), h1, HF.out.2.2.2.2.trans cT (fun z e => .inr (by omega))⟩
                clear h1 cT HF
                go_wp2_with fail
                go_roundw
                case rel => exact .inr (.inr (.inl ⟨rfl, rfl, HF3.out⟩))
                case measure => simp [intOf]
              · obtain ⟨y0, y1, y2, y3⟩ := cells4y HF.out.2.1
                obtain ⟨s0, s1, s2, s3, s4⟩ := cells5 HF.out.1
                obtain ⟨x0, x1, x2, x3, x4⟩ := cells5 HF.out.2.2.2.1
                obtain ⟨z0, z1, z2, z3, z4⟩ := cells5f HF.out.2.2.2.1
                have h1 : ((wr).setCell ⟨b8, 4, none⟩ (.int .i64 c)).heap[b8]? = some (.cells #[.int .i64 mn, .int .i64 d, .int .i64 a, .int .i64 b, .int .i64 c] 52 (0, 0)) := set_blk _ HF.out.2.2.2.1
                have cT : Chg (fun q => q = b8) wr ((wr).setCell ⟨b8, 4, none⟩ (.int .i64 c)) := (Chg.refl (fun q => q = b8) wr).setCell (p := ⟨b8, 4, none⟩) (.inl rfl) _
                have HF3 : Hid (((wr).setCell ⟨b8, 4, none⟩ (.int .i64 c)).heap[w.heap.size]? = some (.cells #[.int .i64 n, .int .i64 a, .int .i64 b, .int .i64 c, .int .i64 d] 52 (0, 0)) ∧ ((wr).setCell ⟨b8, 4, none⟩ (.int .i64 c)).heap[w.heap.size + 1]? = some (.cells #[.int .i64 3, .int .u8 yb, .int .i64 yl, .int .i64 3] 33 (0, 0)) ∧ ((wr).setCell ⟨b8, 4, none⟩ (.int .i64 c)).heap[w.heap.size + 1 + 1]? = some (.cells #[.int .i64 0, .int .i64 0, .int .i64 0, .int .i64 0, .int .i64 0] 52 (0, 0)) ∧ ((wr).setCell ⟨b8, 4, none⟩ (.int .i64 c)).heap[b8]? = some (.cells #[.int .i64 mn, .int .i64 d, .int .i64 a, .int .i64 b, .int .i64 c] 52 (0, 0)) ∧ Chg (fun _ => False) w ((wr).setCell ⟨b8, 4, none⟩ (.int .i64 c))) := ⟨blk_keep HF.out.1 cT (by omega), blk_keep HF.out.2.1 cT (by omega), blk_keep HF.out.2.2.1 cT (by omega), h1, HF.out.2.2.2.2.trans cT (fun z e => .inr (by omega))⟩
                clear h1 cT HF
                go_wp2_with fail
                go_roundw
                case rel => exact .inr (.inr (.inr (.inl ⟨rfl, rfl, HF3.out⟩)))
                case measure => simp [intOf]
              · obtain ⟨y0, y1, y2, y3⟩ := cells4y HF.out.2.1
                go_wp2_with fail
                go_roundw
                case rel => exact .inr (.inr (.inr (.inr (⟨rfl, rfl, HF.out⟩))))
                case measure => simp [intOf]
              · skip
                obtain ⟨_, _, hz, ht, hcc⟩ := HF.out
                obtain ⟨t0, t1, t2, t3, t4⟩ := cells5 ht
                obtain ⟨⟨p0, f0⟩, ⟨p1, f1⟩, ⟨p2, f2⟩, ⟨p3, f3⟩, ⟨p4, f4⟩, hblk, hchg⟩ := put5_of hz (.int .i64 mn) (.int .i64 d) (.int .i64 a) (.int .i64 b) (.int .i64 c)
                have HE : Hid _ := cells5 hblk
                have HCE : Hid (Chg (fun _ => False) w _) := hcc.trans hchg (fun z e => .inr (by omega))
                clear hz ht hcc hblk hchg
                go_wp2
                obtain ⟨q0, q1, q2, q3, q4⟩ := HE.out
                refine bodyPost_ret (v := .tuple #[.agg #[.int .i64 mn, .int .i64 d, .int .i64 a, .int .i64 b, .int .i64 c], .int .i64 0]) (by simp [results, Tryd.results45, go_sem, q0, q1, q2, q3, q4]) rfl ?_
                exact ⟨by rw [HNX.out]; rfl, HCE.out⟩
        · clear HT3
          obtain ⟨_, _, hz, ht, hcc⟩ := HFT.out
          obtain ⟨t0, t1, t2, t3, t4⟩ := cells5 ht
          obtain ⟨⟨p0, f0⟩, ⟨p1, f1⟩, ⟨p2, f2⟩, ⟨p3, f3⟩, ⟨p4, f4⟩, hblk, hchg⟩ := put5_of hz (.int .i64 mn) (.int .i64 a) (.int .i64 b) (.int .i64 c) (.int .i64 d)
          have HE : Hid _ := cells5 hblk
          have HCE : Hid (Chg (fun _ => False) w _) := hcc.trans hchg (fun z e => .inr (by omega))
          clear hz ht hcc hblk hchg
          go_wp2
          obtain ⟨q0, q1, q2, q3, q4⟩ := HE.out
          refine bodyPost_ret (v := .tuple #[.agg #[.int .i64 mn, .int .i64 a, .int .i64 b, .int .i64 c, .int .i64 d], .int .i64 0]) (by simp [results, Tryd.results45, go_sem, q0, q1, q2, q3, q4]) rfl ?_
          exact ⟨by rw [HNX.out]; rfl, HCE.out⟩
    · obtain ⟨fe, hfe⟩ : ∃ fe, formed ⟨k, yb, yl, yd⟩ = fe := ⟨_, rfl⟩
      have HNX : Hid (nxt ⟨n, a, b, c, d⟩ ⟨k, yb, yl, yd⟩ = (zero, fe)) := by
        show _ = _
        unfold nxt
        rw [if_neg (not_not_intro HRT.out), if_pos hf, hfe]
      rw [hfe] at hf ⊢
      have e0 : (fe == 0) = false := by rw [beq_eq_false_iff_ne]; exact hf
      have e0' : (fe != 0) = true := by simp [hf]
      have e0'' : decide (fe = 0) = false := decide_eq_false hf
      obtain ⟨q0, q1, q2, q3, q4⟩ := cells5 HZ2.out
      obtain ⟨f0, f1, f2, f3, f4⟩ := cells5f HZ2.out
      have hP := put5_of HZ2.out (.int .i64 0) (.int .i64 0) (.int .i64 0) (.int .i64 0) (.int .i64 0)
      obtain ⟨⟨p0, g0⟩, ⟨p1, g1⟩, ⟨p2, g2⟩, ⟨p3, g3⟩, ⟨p4, g4⟩, hblk, hchg⟩ := hP
      have HE : Hid _ := cells5 hblk
      have HCE : Hid (Chg (fun _ => False) w _) := HC2.out.trans hchg (fun z e => .inr (by omega))
      clear hfe hblk hchg
      go_wp2
      obtain ⟨r0, r1, r2, r3, r4⟩ := HE.out
      refine bodyPost_ret (v := .tuple #[.agg #[.int .i64 0, .int .i64 0, .int .i64 0, .int .i64 0, .int .i64 0], .int .i64 fe]) (by simp [results, Tryd.results45, go_sem, r0, r1, r2, r3, r4]) rfl ?_
      exact ⟨by rw [HNX.out]; rfl, HCE.out⟩
  · have HNX : Hid (nxt ⟨n, a, b, c, d⟩ ⟨k, yb, yl, yd⟩ = (zero, 7)) := by
      show _ = _
      unfold nxt
      rw [if_pos hr]
    rw [decide_eq_false hr]
    clear hr HFO
    have hP := put5_of HZ1.out (.int .i64 0) (.int .i64 0) (.int .i64 0) (.int .i64 0) (.int .i64 0)
    obtain ⟨⟨p0, g0⟩, ⟨p1, g1⟩, ⟨p2, g2⟩, ⟨p3, g3⟩, ⟨p4, g4⟩, hblk, hchg⟩ := hP
    have HE : Hid _ := cells5 hblk
    have HCE : Hid (Chg (fun _ => False) w _) := HC1.out.trans hchg (fun z e => .inr (by omega))
    clear hblk hchg
    go_wp2
    obtain ⟨r0, r1, r2, r3, r4⟩ := HE.out
    refine bodyPost_ret (v := .tuple #[.agg #[.int .i64 0, .int .i64 0, .int .i64 0, .int .i64 0, .int .i64 0], .int .i64 7]) (by simp [results, Tryd.results45, go_sem, r0, r1, r2, r3, r4]) rfl ?_
    exact ⟨by rw [HNX.out]; rfl, HCE.out⟩
end Go.Proofs.YtlnocjicmofjfaaDoor

/- Structs and arrays that are compared; of no statement by itself. -/
namespace Go.Proofs.YtlnocjicmofjfaaDoor
open Go.RowKit
set_option linter.unusedVariables false

theorem equal_same (w : World) (d : Nat) (t e : TypeId) (n : Nat) (k : IntKind) (ht : Tryd.prog.underlying t = some (.array n e)) (he : Tryd.prog.underlying e = some (.int k)) (hsz : ∀ w, (sizeOf e).run Tryd.prog w = .ok 1 w) (xs : List Int) (hx : xs.length = n) :
    (Op.equalIn (d + 2) t (.agg (xs.map (Value.int k)).toArray) (.agg (xs.map (Value.int k)).toArray)).run Tryd.prog w = .ok true w := by
  rw [Op.equalIn]
  simp only [Sem.run_bind, run_underlying ht, Result.andThen_ok, hsz, Std.Legacy.Range.forIn_eq_forIn_range', Std.Legacy.Range.size, Nat.sub_zero, Nat.add_sub_cancel, Nat.div_one]
  have hl : ∀ i ∈ List.range' 0 n 1, i < n := fun i hi => by simpa using (List.mem_range'_1.1 hi).2
  generalize List.range' 0 n 1 = l at hl ⊢
  induction l with
  | nil => simp
  | cons i l ih =>
    have hi : i < n := hl i (by simp)
    have px : (part e (xs.map (Value.int k)).toArray (i * 1)).run Tryd.prog w = .ok (.int k (xs.getD i 0)) w := by
      simp [part, isAgg, run_underlying he, List.getD, List.getElem?_eq_getElem (show i < xs.length by omega)]
    have pe : (Op.equalIn (d + 1) e (.int k (xs.getD i 0)) (.int k (xs.getD i 0))).run Tryd.prog w = .ok true w := by
      rw [run_equalIn_int w d e k k _ _ he]
      simp
    simp only [List.forIn_cons, Sem.run_bind, px, pe, Result.andThen_ok]
    simp only [Bool.not_true, Bool.false_eq_true, if_false, Sem.run_pure, Result.andThen_ok]
    exact ih fun j hj => hl j (by simp [hj])

theorem one_size {e : TypeId} (h : (Tryd.prog.info? e).map (·.size) = some 1) : ∀ w, (sizeOf e).run Tryd.prog w = .ok 1 w := fun w => by
  cases hq : Tryd.prog.info? e with
  | none => simp [hq] at h
  | some i => simp [sizeOf, typeInfo, hq] at h ⊢; exact h

theorem same4 (w : World) (a b c d : Int) : (binOp .eql 28 (.agg #[.int .i64 a, .int .i64 b, .int .i64 c, .int .i64 d]) (.agg #[.int .i64 a, .int .i64 b, .int .i64 c, .int .i64 d])).run Tryd.prog w = .ok (.bool true) w := by
  have := equal_same w 9998 28 3 4 .i64 Tryd.underlying28 Tryd.underlying3 (one_size (by kernel_rfl)) [a, b, c, d] rfl
  rw [run_eql_struct, show (.agg #[.int .i64 a, .int .i64 b, .int .i64 c, .int .i64 d] : Value) = .agg ([a, b, c, d].map (Value.int .i64)).toArray from rfl, this]
  rfl
theorem nsame4 (w : World) (a b c d : Int) : (binOp .neq 28 (.agg #[.int .i64 a, .int .i64 b, .int .i64 c, .int .i64 d]) (.agg #[.int .i64 a, .int .i64 b, .int .i64 c, .int .i64 d])).run Tryd.prog w = .ok (.bool false) w := by
  have := equal_same w 9998 28 3 4 .i64 Tryd.underlying28 Tryd.underlying3 (one_size (by kernel_rfl)) [a, b, c, d] rfl
  rw [run_neq_struct, show (.agg #[.int .i64 a, .int .i64 b, .int .i64 c, .int .i64 d] : Value) = .agg ([a, b, c, d].map (Value.int .i64)).toArray from rfl, this]
  rfl
theorem zeroS (w : World) : (binOp .neq 30 (.agg #[.int .i64 0, .int .i64 0, .int .i64 0, .int .i64 0, .int .i64 0]) (.agg #[.int .i64 0, .int .i64 0, .int .i64 0, .int .i64 0, .int .i64 0])).run Tryd.prog w = .ok (.bool false) w := by kernel_rfl
end Go.Proofs.YtlnocjicmofjfaaDoor

/- What a state remembers; lists of symbols; the law's small functions; of no statement by itself. -/
namespace Go.Proofs.YtlnocjicmofjfaaDoor
open Go.RowKit
open St12
set_option linter.unusedVariables false
set_option linter.unusedSimpArgs false

namespace St12
/-- A state s behind L literals in a row, all its distances among those seen. -/
structure Rem (s : Stt) (L : Int) (seen : List Int) : Prop where
  rt : right s
  l0 : 0 ≤ L
  li : lit s.n = decide (0 < L)
  l2 : 2 ≤ L → s.n ≤ 3
  l3 : 3 ≤ L → s.n = 0
  ma : s.a ∈ seen
  mb : s.b ∈ seen
  mc : s.c ∈ seen
  md : s.d ∈ seen
theorem rem0 : Rem st0 3 [1] := ⟨by decide, by decide, by decide, fun _ => by decide, fun _ => rfl, by decide, by decide, by decide, by decide⟩
theorem nxt_eq {s : Stt} (y : Sym) (h : right s) : nxt s y = if formed y ≠ 0 then (zero, formed y) else (⟨mvd s.n y.k, (reps s y).1, (reps s y).2.1, (reps s y).2.2.1, (reps s y).2.2.2⟩, 0) := by
  unfold nxt
  rw [if_neg (not_not_intro h)]
theorem nxt_in {s : Stt} {y : Sym} (h : right s) (hf : formed y = 0) : nxt s y = (⟨mvd s.n y.k, (reps s y).1, (reps s y).2.1, (reps s y).2.2.1, (reps s y).2.2.2⟩, 0) := by
  rw [nxt_eq y h, if_neg (not_not_intro hf)]
theorem lit_of {n : Int} (h0 : 0 ≤ n) (h : n ≤ 6) : lit n = true := by unfold lit; simp; omega
theorem lit_not {n : Int} (h : 7 ≤ n) : lit n = false := by unfold lit; simp; omega
theorem rem_lit {s : Stt} {L : Int} {seen : List Int} (h : Rem s L seen) {yb yl yd : Int} : ∃ t, nxt s ⟨1, yb, yl, yd⟩ = (t, 0) ∧ Rem t (L + 1) seen ∧ t.a = s.a := by
  refine ⟨_, nxt_in h.rt (by unfold formed; simp), ?_, rfl⟩
  have hr := (nxt_right h.rt (y := ⟨1, yb, yl, yd⟩) (by unfold formed; simp)).2
  rw [nxt_in h.rt (by unfold formed; simp)] at hr
  have hn := h.rt.1
  have e : mvd s.n 1 = if s.n < 4 then 0 else if s.n < 10 then s.n - 3 else s.n - 6 := by unfold mvd; rfl
  have hli : 0 < L → s.n ≤ 6 := fun hl => by
    have := h.li
    rw [decide_eq_true hl] at this
    unfold lit at this
    simp at this
    exact this.2
  have l0 := h.l0
  have l2 := h.l2
  refine ⟨hr, by omega, ?_, fun hl => ?_, fun hl => ?_, h.ma, h.mb, h.mc, h.md⟩
  · show lit (mvd s.n 1) = _
    rw [decide_eq_true (by omega), e]
    refine lit_of ?_ ?_
    · split <;> (try split) <;> omega
    · split <;> (try split) <;> omega
  · show mvd s.n 1 ≤ 3
    have := hli (by omega)
    rw [e]
    split <;> (try split) <;> omega
  · show mvd s.n 1 = 0
    have := l2 (by omega)
    rw [e]
    split <;> (try split) <;> omega
theorem mvd_hi (n k : Int) (h : k ≠ 1) : 7 ≤ mvd n k := by
  unfold mvd
  rw [if_neg h]
  split <;> split <;> (try split) <;> omega
theorem rem_other {s t : Stt} {seen : List Int} {y : Sym} (hs : right s) (hf : formed y = 0) (hk : y.k ≠ 1) (ht : nxt s y = (t, 0)) (ha : t.a ∈ seen) (hb : t.b ∈ seen) (hc : t.c ∈ seen) (hd : t.d ∈ seen) : Rem t 0 seen := by
  have hr := (nxt_right hs hf).2
  have hn := nxt_in hs hf
  rw [ht] at hr hn
  have e : t.n = mvd s.n y.k := by injection hn with h1 _; rw [h1]
  refine ⟨hr, by omega, ?_, fun h => by omega, fun h => by omega, ha, hb, hc, hd⟩
  rw [e]
  exact lit_not (mvd_hi _ _ hk)
theorem rem_match {s : Stt} {L : Int} {seen : List Int} (h : Rem s L seen) {yb yl yd : Int} (hf : formed ⟨2, yb, yl, yd⟩ = 0) : ∃ t, nxt s ⟨2, yb, yl, yd⟩ = (t, 0) ∧ Rem t 0 (seen ++ [yd]) ∧ t.a = yd := by
  refine ⟨_, nxt_in h.rt hf, ?_, rfl⟩
  refine rem_other h.rt hf (by show (2 : Int) ≠ 1; decide) (nxt_in h.rt hf) ?_ ?_ ?_ ?_
  · show yd ∈ _; simp
  · show s.a ∈ _; have := h.ma; simp [this]
  · show s.b ∈ _; have := h.mb; simp [this]
  · show s.c ∈ _; have := h.mc; simp [this]
/-- The distance of a place. -/
def rep (s : Stt) (d : Int) : Int := if d = 1 then s.b else if d = 2 then s.c else if d = 3 then s.d else s.a
theorem rem_rep {s : Stt} {L : Int} {seen : List Int} (h : Rem s L seen) {yb yl yd : Int} (hf : formed ⟨3, yb, yl, yd⟩ = 0) : ∃ t, nxt s ⟨3, yb, yl, yd⟩ = (t, 0) ∧ Rem t 0 seen ∧ t.a = rep s yd := by
  have ha := h.ma
  have hb := h.mb
  have hc := h.mc
  have hd := h.md
  have e : reps s ⟨3, yb, yl, yd⟩ = if yd = 1 then (s.b, s.a, s.c, s.d) else if yd = 2 then (s.c, s.a, s.b, s.d) else if yd = 3 then (s.d, s.a, s.b, s.c) else (s.a, s.b, s.c, s.d) := by
    unfold reps
    rfl
  refine ⟨_, nxt_in h.rt hf, rem_other h.rt hf (by show (3 : Int) ≠ 1; decide) (nxt_in h.rt hf) ?_ ?_ ?_ ?_, ?_⟩
  all_goals
    show _
    simp only [e]
    try unfold rep
    by_cases h1 : yd = 1 <;> by_cases h2 : yd = 2 <;> by_cases h3 : yd = 3 <;> simp [h1, h2, h3, ha, hb, hc, hd]
theorem rem_short {s : Stt} {L : Int} {seen : List Int} (h : Rem s L seen) {yb yl yd : Int} : ∃ t, nxt s ⟨4, yb, yl, yd⟩ = (t, 0) ∧ Rem t 0 seen ∧ t.a = s.a := by
  have hf : formed ⟨4, yb, yl, yd⟩ = 0 := by unfold formed; simp
  exact ⟨_, nxt_in h.rt hf, rem_other h.rt hf (by show (4 : Int) ≠ 1; decide) (nxt_in h.rt hf) h.ma h.mb h.mc h.md, rfl⟩
end St12
/-- A list of symbols in memory. -/
def SymL (w : World) (a : Option Addr) (l : List Sym) : Prop := ∀ (k : Nat) (y : Sym), l[k]? = some y → y.I ∧ ∃ b off, a = some ⟨b, off, none⟩ ∧ w.cell? ⟨b, off + k * 4, none⟩ = some (.int .i64 y.k) ∧ w.cell? ⟨b, off + k * 4 + 1, none⟩ = some (.int .u8 y.y) ∧ w.cell? ⟨b, off + k * 4 + 2, none⟩ = some (.int .i64 y.l) ∧ w.cell? ⟨b, off + k * 4 + 3, none⟩ = some (.int .i64 y.d)
theorem SymL.new {w w' : World} {a : Option Addr} {l : List Sym} (h : SymL w a l) (hc : Chg (fun _ => False) w w') : SymL w' a l := fun k y hk => by
  obtain ⟨hI, b, off, e, h0, h1, h2, h3⟩ := h k y hk
  exact ⟨hI, b, off, e, cell_chg h0 hc, cell_chg h1 hc, cell_chg h2 hc, cell_chg h3 hc⟩
end Go.Proofs.YtlnocjicmofjfaaDoor

/- Slots by binary digits; of no statement by itself. -/
namespace Go.Proofs.YtlnocjicmofjfaaDoor
set_option linter.unusedVariables false
namespace St12
theorem least_closed : ∀ i, 4 ≤ i → least i = (2 + i % 2) * 2 ^ (i / 2 - 1) + 1
  | 0, h => by omega
  | i + 1, h => by
    by_cases e : i = 3
    · subst e
      decide
    · have ih := least_closed i (by omega)
      show least i + 2 ^ bitsN i = _
      have hb : bitsN i = i / 2 - 1 := by unfold bitsN; rw [if_neg (by omega)]
      rw [hb, ih]
      by_cases p : i % 2 = 0
      · have h1 : (i + 1) % 2 = 1 := by omega
        have h2 : (i + 1) / 2 = i / 2 := by omega
        rw [h1, h2, p]
        generalize 2 ^ (i / 2 - 1) = P
        omega
      · have h0 : i % 2 = 1 := by omega
        have h1 : (i + 1) % 2 = 0 := by omega
        have h2 : (i + 1) / 2 - 1 = (i / 2 - 1) + 1 := by omega
        rw [h0, h1, h2, Nat.pow_succ]
        generalize 2 ^ (i / 2 - 1) = P
        omega
theorem slot_small {x : Nat} (h : x < 4) : slotN (x + 1) = x := by
  rcases x with _ | _ | _ | _ | x
  · decide +kernel
  · decide +kernel
  · decide +kernel
  · decide +kernel
  · omega
/-- The slot of a distance x + 1 whose x has k + 1 binary digits. -/
theorem slot_digits {x k : Nat} (hk : 2 ≤ k) (hk2 : k ≤ 31) (h1 : 2 ^ k ≤ x) (h2 : x < 2 ^ (k + 1)) : slotN (x + 1) = 2 * k + x / 2 ^ (k - 1) % 2 := by
  obtain ⟨j, rfl⟩ : ∃ j, k = j + 1 := ⟨k - 1, by omega⟩
  rw [Nat.add_sub_cancel]
  have hP : 0 < 2 ^ j := Nat.two_pow_pos j
  have e1 : 2 ^ (j + 1) = 2 * 2 ^ j := by rw [Nat.pow_succ, Nat.mul_comm]
  have e2 : 2 ^ (j + 1 + 1) = 4 * 2 ^ j := by rw [Nat.pow_succ, e1]; omega
  rw [e1] at h1
  rw [e2] at h2
  have hq1 : 2 ≤ x / 2 ^ j := (Nat.le_div_iff_mul_le hP).2 h1
  have hq2 : x / 2 ^ j < 4 := (Nat.div_lt_iff_lt_mul hP).2 h2
  have hm := Nat.div_add_mod x (2 ^ j)
  have hr := Nat.mod_lt x hP
  obtain ⟨q, hq⟩ : ∃ q, x / 2 ^ j = q := ⟨_, rfl⟩
  rw [hq] at hq1 hq2 hm ⊢
  have hi : 2 * (j + 1) + q % 2 < 64 := by omega
  have hc := least_closed (2 * (j + 1) + q % 2) (by omega)
  have a1 : (2 * (j + 1) + q % 2) % 2 = q % 2 := by omega
  have a2 : (2 * (j + 1) + q % 2) / 2 - 1 = j := by omega
  rw [a1, a2] at hc
  have hb : bitsN (2 * (j + 1) + q % 2) = j := by unfold bitsN; rw [if_neg (by omega)]; omega
  have hqq : 2 + q % 2 = q := by omega
  rw [hqq] at hc
  refine slotN_is hi ?_ ?_
  · rw [hc, Nat.mul_comm]
    omega
  · show x + 1 < least (2 * (j + 1) + q % 2) + 2 ^ bitsN (2 * (j + 1) + q % 2)
    rw [hb, hc, Nat.mul_comm]
    omega
theorem slot_shift {x k : Nat} (hk : 2 ≤ k) (hk2 : k ≤ 31) (h1 : 2 ^ k ≤ x) (h2 : x < 2 ^ (k + 1)) : slotN (x + 1) = 2 * k + ((x >>> (k - 1)) &&& 1) := by
  rw [slot_digits hk hk2 h1 h2, Nat.shiftRight_eq_div_pow, Nat.and_one_is_mod]
/-- A number's digits. -/
theorem digits {x : Nat} (h : 4 ≤ x) (hm : x < 4294967296) : ∃ k, 2 ≤ k ∧ k ≤ 31 ∧ 2 ^ k ≤ x ∧ x < 2 ^ (k + 1) := by
  refine ⟨Nat.log2 x, ?_, ?_, Nat.log2_self_le (by omega), Nat.lt_log2_self⟩
  · have := (Nat.le_log2 (n := x) (k := 2) (by omega)).2 (by omega)
    exact this
  · have : Nat.log2 x < 32 := (Nat.log2_lt (by omega)).2 (by simpa using hm)
    omega
end St12
end Go.Proofs.YtlnocjicmofjfaaDoor
