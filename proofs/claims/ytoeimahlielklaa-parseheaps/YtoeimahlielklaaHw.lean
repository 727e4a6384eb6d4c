/- Two heaps beside one another: the walk of ParseHeaps; of no statement by itself. -/
import Derived.Test.YtoeimahlielklaaHs
namespace Go.Proofs.Ytoeimahlielklaa
open Go.RowKit
open Hp16
set_option linter.unusedVariables false
set_option linter.unusedSimpArgs false
variable {Hp : World → Nat → Nat → (Nat → Prop) → List Pr → Prop}
/-- A list of moves in memory. -/
def MvL (w : World) (ad : Option Addr) (l : List Mv) : Prop := ∀ (k : Nat) (m : Mv), l[k]? = some m → ∃ b off, ad = some ⟨b, off, none⟩ ∧ w.cell? ⟨b, off + k * 4, none⟩ = some (.int .i64 m.k) ∧ w.cell? ⟨b, off + k * 4 + 1, none⟩ = some (.bool m.t) ∧ w.cell? ⟨b, off + k * 4 + 2, none⟩ = some (.int .i64 m.x) ∧ w.cell? ⟨b, off + k * 4 + 3, none⟩ = some (.int .i64 m.y)
theorem MvL.new {w w' : World} {a : Option Addr} {l : List Mv} (h : MvL w a l) (hc : Chg (fun _ => False) w w') : MvL w' a l := fun k y hk => by
  obtain ⟨b, off, e, h0, h1, h2, h3⟩ := h k y hk
  exact ⟨b, off, e, cell_chg h0 hc, cell_chg h1 hc, cell_chg h2 hc, cell_chg h3 hc⟩
/-- Two pairs of heaps, all made since w0. -/
structure H2 (Hp : World → Nat → Nat → (Nat → Prop) → List Pr → Prop) (w0 w : World) (a r b s : Nat) (n m : Nat) : Prop where
  ex : ∃ L1 G1 L2 G2, HP Hp w w0.heap.size a r L1 G1 ∧ HP Hp w w0.heap.size b s L2 G2 ∧ (∀ z, G1 z → ¬ G2 z) ∧ L1.length ≤ n ∧ L2.length ≤ m
  ch : Chg (fun _ => False) w0 w
theorem H2.new (S : HeapSpec Hp) {w0 w w' : World} {a r b s n m : Nat} (h : H2 Hp w0 w a r b s n m) (hc : Chg (fun _ => False) w w') : H2 Hp w0 w' a r b s n m := by
  obtain ⟨L1, G1, L2, G2, h1, h2, h3, h4, h5⟩ := h.ex
  exact ⟨⟨L1, G1, L2, G2, h1.new S hc, h2.new S hc, h3, h4, h5⟩, chg_then h.ch hc⟩
theorem H2.swap {w0 w : World} {a r b s n m : Nat} (h : H2 Hp w0 w a r b s n m) : H2 Hp w0 w b s a r m n := by
  obtain ⟨L1, G1, L2, G2, h1, h2, h3, h4, h5⟩ := h.ex
  exact ⟨⟨L2, G2, L1, G1, h2, h1, fun z f k => h3 z k f, h5, h4⟩, h.ch⟩
theorem H2.first (S : HeapSpec Hp) {w0 w W : World} {a r b s n m : Nat} (h : H2 Hp w0 w a r b s n m) (hW : Chg (fun _ => False) w W) (k : Int) (tw : Bool) (x y : Int) (hn : n < 8796093022208) (N : Nat) (hN : n + 1 ≤ N ∨ k = 1 ∧ n - 1 ≤ N) : Calls Try.prog 8 #[.pointer (some ⟨a, 0, none⟩), .pointer (some ⟨r, 0, none⟩), .agg #[.int .i64 k, .bool tw, .int .i64 x, .int .i64 y]] W fun e w' => e = .returned (.bool true) ∧ H2 Hp w0 w' a r b s N m ∧ Chg (fun z => z < w.heap.size) W w' := by
  obtain ⟨L1, G1, L2, G2, h1, h2, h3, h4, h5⟩ := h.ex
  refine (heaped_any S _ a r L1 G1 k tw x y W (h1.new S hW) (Nat.le_trans h.ch.size hW.size) (by omega)).mono fun e w' ⟨he, L', G', k1, c1, f1, l1, l2⟩ => ?_
  refine ⟨he, ⟨⟨L', G', L2, G2, k1, (h2.new S hW).keep S c1 (fun z f g => h3 z g f), fun z f g => ?_, ?_, h5⟩, ?_⟩, c1.mono (fun z f => .inl (h1.lt S z f).2)⟩
  · rcases f1 z f with q | q
    · exact h3 z q g
    · have := (h2.lt S z g).2
      have := hW.size
      omega
  · rcases hN with q | ⟨q1, q2⟩
    · omega
    · have := l2 q1
      omega
  · exact (chg_then h.ch hW).trans c1 (fun z f => .inr (h1.lt S z f).1)
theorem H2.second (S : HeapSpec Hp) {w0 w W : World} {a r b s n m : Nat} (h : H2 Hp w0 w a r b s n m) (hW : Chg (fun _ => False) w W) (k : Int) (tw : Bool) (x y : Int) (hn : m < 8796093022208) (N : Nat) (hN : m + 1 ≤ N ∨ k = 1 ∧ m - 1 ≤ N) : Calls Try.prog 8 #[.pointer (some ⟨b, 0, none⟩), .pointer (some ⟨s, 0, none⟩), .agg #[.int .i64 k, .bool tw, .int .i64 x, .int .i64 y]] W fun e w' => e = .returned (.bool true) ∧ H2 Hp w0 w' a r b s n N ∧ Chg (fun z => z < w.heap.size) W w' :=
  (h.swap.first S hW k tw x y hn N hN).mono fun e w' ⟨h1, h2, h3⟩ => ⟨h1, h2.swap, h3⟩
theorem HP.begin (S : HeapSpec Hp) {w w' : World} {B a r : Nat} (ha : Hp w' B a (fun z => z = a) []) (hr : w'.heap[r]? = some (.cells #[.slice none 0 0] 40 (0, 0))) (hB : B ≤ r) : HP Hp w' B a r [] (fun z => z = a ∨ z = r) :=
  ⟨_, .slice none 0 0, [], ha, ⟨hB, hr, World.ownsRow_nil _ _ _ _⟩, List.Perm.refl _, fun z => by unfold Foot; simp [Value.ownBlock]⟩
theorem H2.mono {w0 w : World} {a r b s n m n' m' : Nat} (h : H2 Hp w0 w a r b s n m) (hn : n ≤ n') (hm : m ≤ m') : H2 Hp w0 w a r b s n' m' := by
  obtain ⟨L1, G1, L2, G2, h1, h2, h3, h4, h5⟩ := h.ex
  exact ⟨⟨L1, G1, L2, G2, h1, h2, h3, Nat.le_trans h4 hn, Nat.le_trans h5 hm⟩, h.ch⟩
theorem H2.len1 (S : HeapSpec Hp) {w0 w : World} {a r b s m : Nat} (h : H2 Hp w0 w a r b s 0 m) : Calls Try.prog 6 #[.pointer (some ⟨a, 0, none⟩)] w fun e w' => e = .returned (.int .i64 0) ∧ H2 Hp w0 w' a r b s 0 m := by
  obtain ⟨L1, G1, L2, G2, h1, h2, h3, h4, h5⟩ := h.ex
  obtain ⟨F, v, l, k1, _⟩ := h1.ex
  obtain rfl : L1 = [] := List.eq_nil_of_length_eq_zero (by omega)
  exact (S.len _ a F [] w k1 (by simp)).mono fun e w' ⟨he, hc⟩ => ⟨he, h.new S hc⟩
set_option maxHeartbeats 8000000 in
set_option maxRecDepth 100000 in
theorem heaps_any (S : HeapSpec Hp) (ad : Option Addr) (n c : Nat) (l : List Mv) (hl : l.length = n) (hn : n < 8796093022207) (w0 : World) (hm : MvL w0 ad l) : Calls Try.prog 4 #[.slice ad n c] w0 fun e w' => e = .returned (.bool true) ∧ Chg (fun _ => False) w0 w' := by
  have HM : Hid (MvL w0 ad l) := hm
  have HL : Hid (l.length = n) := hl
  have hni : (n : Int) < 8796093022207 := by omega
  have c1 := chg_one w0 (.cells #[.nilFunc, .slice none 0 0] 29)
  have z1 := S.zero w0
  have c2 := chg_one (w0.alloc (.cells #[.nilFunc, .slice none 0 0] 29)) (.cells #[.nilFunc, .slice none 0 0] 29)
  have z2 := S.zero (w0.alloc (.cells #[.nilFunc, .slice none 0 0] 29))
  have e1 : (w0.alloc (.cells #[.nilFunc, .slice none 0 0] 29)).heap.size = w0.heap.size + 1 := by simp
  generalize hW1 : w0.alloc (.cells #[.nilFunc, .slice none 0 0] 29) = W1 at *
  have e2 : (W1.alloc (.cells #[.nilFunc, .slice none 0 0] 29)).heap.size = W1.heap.size + 1 := by simp
  generalize hW2 : W1.alloc (.cells #[.nilFunc, .slice none 0 0] 29) = W2 at *
  have c3 := chg_one W2 (.cells #[.slice none 0 0] 40)
  have b3 := heap_alloc_last W2 (.cells #[.slice none 0 0] 40)
  have e3 : (W2.alloc (.cells #[.slice none 0 0] 40)).heap.size = W2.heap.size + 1 := by simp
  generalize hW3 : W2.alloc (.cells #[.slice none 0 0] 40) = W3 at *
  have c4 := chg_one W3 (.cells #[.slice none 0 0] 40)
  have b4 := heap_alloc_last W3 (.cells #[.slice none 0 0] 40)
  have HS : Hid (H2 Hp w0 (W3.alloc (.cells #[.slice none 0 0] 40)) w0.heap.size W2.heap.size W1.heap.size W3.heap.size 0 0) := by
    refine ⟨⟨[], _, [], _, HP.begin S (w := w0) (S.new (S.new (S.new z1 c2) c3) c4) (blk_keep b3 c4 (fun f => f)) (by omega), HP.begin S (w := w0) (S.down (S.new (S.new z2 c3) c4) (by omega)) b4 (by omega), ?_, Nat.le_refl _, Nat.le_refl _⟩, chg_then (chg_then (chg_then c1 c2) c3) c4⟩
    rintro z (rfl | rfl) (f | f) <;> omega
  rw [e3, e2, e1] at HS
  clear c1 z1 c2 z2 c3 b3 c4 b4 hl hm e1 e2 e3
  subst hW3
  subst hW2
  subst hW1
  go_enter Try.func4, Try.ntmps4
  go_wp2_with fail
  generalize (((w0.alloc (.cells #[.nilFunc, .slice none 0 0] 29)).alloc (.cells #[.nilFunc, .slice none 0 0] 29)).alloc (.cells #[.slice none 0 0] 40)).alloc (.cells #[.slice none 0 0] 40) = W4 at *
  generalize w0.heap.size + 1 + 1 + 1 = hs at *
  generalize w0.heap.size + 1 + 1 = hr at *
  generalize w0.heap.size + 1 = hb at *
  generalize w0.heap.size = ha at *
  go_loopw [21] (fun v wr => ∃ i : Nat, i ≤ n ∧ v = .int .i64 (i : Int) ∧ Hid (H2 Hp w0 wr ha hr hb hs i i)) (fun v _ => n - (intOf v).toNat)
  case atStart => exact ⟨0, by omega, rfl, HS.out⟩
  case round =>
    obtain ⟨i, hi, rfl, HI⟩ := hrel
    have hii : (i : Int) < 8796093022208 := by omega
    by_cases hin : i < n
    · have hd1 : decide (i < n) = true := decide_eq_true hin
      obtain ⟨m, hm⟩ : ∃ m, l[i]? = some m := ⟨_, List.getElem?_eq_getElem (by rw [HL.out]; exact hin)⟩
      obtain ⟨b, off, rfl, x0, x1, x2, x3⟩ := HM.out.new HI.out.ch i m hm
      obtain ⟨mk, mt, mx, my⟩ := m
      simp only at x0 x1 x2 x3
      clear hm
      have cB := chg_one wr (.cells #[.int .i64 mk, .bool mt, .int .i64 mx, .int .i64 my] 42)
      obtain ⟨y0, y1, y2, y3⟩ := cells4m (heap_alloc_last wr (.cells #[.int .i64 mk, .bool mt, .int .i64 mx, .int .i64 my] 42))
      cases mt
      · have HC : Hid _ := HI.out.first S cB mk false mx my (by omega) (i + 1) (.inl (Nat.le_refl _))
        clear cB
        go_wp2_with fail
        refine Calls.mono HC.out ?_
        rintro z w1 ⟨rfl, h1, _⟩
        have H1 : Hid (H2 Hp w0 w1 ha hr hb hs (i + 1) (i + 1)) := h1.mono (Nat.le_refl _) (by omega)
        clear h1 HC y0 y1 y2 y3 x0 x1 x2 x3
        go_wp2_with fail
        exact ⟨⟨i + 1, by omega, by go_num, H1.out⟩, by simp [intOf]; omega⟩
      · have HC : Hid _ := HI.out.second S cB mk true mx my (by omega) (i + 1) (.inl (Nat.le_refl _))
        have HMB : Hid ((wr.alloc (.cells #[.int .i64 mk, .bool true, .int .i64 mx, .int .i64 my] 42)).heap[wr.heap.size]? = some (.cells #[.int .i64 mk, .bool true, .int .i64 mx, .int .i64 my] 42 (0, 0))) := heap_alloc_last _ _
        clear cB
        go_wp2_with fail
        refine Calls.mono HC.out ?_
        rintro z w1 ⟨rfl, h1, h2⟩
        have H1 : Hid (H2 Hp w0 w1 ha hr hb hs (i + 1) (i + 1)) := h1.mono (by omega) (Nat.le_refl _)
        have hmb := blk_keep HMB.out h2 (fun f => by omega)
        obtain ⟨z0, z1, z2, z3⟩ := cells4m hmb
        clear h1 h2 hmb HC HMB y0 y1 y2 y3 x0 x1 x2 x3
        go_wp2_with fail
        exact ⟨⟨i + 1, by omega, by go_num, H1.out⟩, by simp [intOf]; omega⟩
    · have hd1 : decide (i < n) = false := decide_eq_false hin
      obtain rfl : n = i := by omega
      clear hd1 hin hii hi
      go_wp2_with fail
      go_loopw [10] (fun v wq => ∃ j : Nat, j ≤ n + 1 ∧ v = .int .i64 (j : Int) ∧ Hid (H2 Hp w0 wq ha hr hb hs (n - j) (n - j))) (fun v _ => n + 1 - (intOf v).toNat)
      case atStart => exact ⟨0, by omega, rfl, HI.out⟩
      case round =>
        obtain ⟨j, hj, rfl, HJ⟩ := hrel
        have hji : (j : Int) < 8796093022209 := by omega
        by_cases hjn : j ≤ n
        · have hd2 : decide ((j : Int) ≤ (n : Int)) = true := by simp; omega
          have hd2' : decide (j ≤ n) = true := decide_eq_true hjn
          have HC : Hid _ := HJ.out.first S (Chg.refl _ _) 1 false 0 0 (by omega) (n - (j + 1)) (.inr ⟨rfl, by omega⟩)
          go_wp2_with fail
          refine Calls.mono HC.out ?_
          rintro z w1 ⟨rfl, h1, _⟩
          have HD : Hid _ := h1.second S (Chg.refl _ _) 1 false 0 0 (by omega) (n - (j + 1)) (.inr ⟨rfl, by omega⟩)
          clear h1 HC
          go_wp2_with fail
          refine Calls.mono HD.out ?_
          rintro z w2 ⟨rfl, h2, _⟩
          have H2' : Hid (H2 Hp w0 w2 ha hr hb hs (n - (j + 1)) (n - (j + 1))) := h2
          clear h2 HD
          go_wp2_with fail
          exact ⟨⟨j + 1, by omega, by go_num, H2'.out⟩, by simp [intOf]; omega⟩
        · have hd2 : decide ((j : Int) ≤ (n : Int)) = false := by simp; omega
          have hd2' : decide (j ≤ n) = false := decide_eq_false hjn
          have hz : n - j = 0 := by omega
          rw [hz] at HJ
          have HC : Hid _ := HJ.out.len1 S
          go_wp2_with fail
          refine Calls.mono HC.out ?_
          rintro z w1 ⟨rfl, h1⟩
          have HD : Hid _ := h1.swap.len1 S
          clear h1 HC
          go_wp2_with fail
          refine Calls.mono HD.out ?_
          rintro z w2 ⟨rfl, h2⟩
          have HE : Hid (Chg (fun _ => False) w0 w2) := h2.ch
          clear h2 HD
          go_wp2
          go_ret
          exact ⟨rfl, HE.out⟩
end Go.Proofs.Ytoeimahlielklaa
