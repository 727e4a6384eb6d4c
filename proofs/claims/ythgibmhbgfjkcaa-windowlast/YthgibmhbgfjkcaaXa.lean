/- The landed window in memory, and its calls that only look; of no statement by themselves. -/
import Derived.Test.YthgibmhbgfjkcaaWp
import Derived.Test.YthgibmhbgfjkcaaXm
namespace Go.Proofs.Ythgibmhbgfjkcaa
open Go.RowKit
set_option linter.unusedVariables false

theorem cells3 {w : World} {a : Nat} {x y z : Value} {t : TypeId} (h : w.heap[a]? = some (.cells #[x, y, z] t (0, 0))) : w.cell? ⟨a, 0, none⟩ = some x ∧ w.cell? ⟨a, 1, none⟩ = some y ∧ w.cell? ⟨a, 2, none⟩ = some z ∧ ∀ j, w.frozen? ⟨a, j, none⟩ = false :=
  ⟨by simp [World.cell?, h], by simp [World.cell?, h], by simp [World.cell?, h], fun j => by simp [World.frozen?, h]⟩
theorem set3 {w : World} {a : Nat} {x y z : Value} {t : TypeId} (h : w.heap[a]? = some (.cells #[x, y, z] t (0, 0))) (j : Nat) (u : Value) : (w.setCell ⟨a, j, none⟩ u).heap[a]? = some (.cells (#[x, y, z].setIfInBounds j u) t (0, 0)) := by
  have hlt := lt_of_blk h
  have h' : w.heap[a] = .cells #[x, y, z] t (0, 0) := by simpa [Array.getElem?_eq_getElem hlt] using h
  show (w.heap.modify a _)[a]? = _
  rw [Array.getElem?_eq_getElem (by simpa using hlt), Array.getElem_modify_self, h']
  rfl
/-- The window at a; its ring's slice v, its size, all bytes that came. -/
structure WinR (w : World) (B a : Nat) (v : Value) (n : Nat) (bs ring : List Nat) : Prop where
  hr : B ≤ a
  blk : w.heap[a]? = some (.cells #[.int .i64 (n : Int), .int .i64 (bs.length : Int), v] 61 (0, 0))
  own : w.ownsRow B 5 1 v ring.length (ins .u8 (nums ring))
  ok : RM n bs ring
  n1 : 1 ≤ n
  n2 : n ≤ 4294967295
  dig : Rc.Dig bs
def Win (w : World) (B a : Nat) (v : Value) (n : Nat) (bs : List Nat) : Prop := ∃ ring, WinR w B a v n bs ring
theorem WinR.keep {w w' : World} {S : Nat → Prop} {B a : Nat} {v : Value} {n : Nat} {bs ring : List Nat} (h : WinR w B a v n bs ring) (hc : Chg S w w') (hS : ∀ z, Foot a v z → ¬ S z) : WinR w' B a v n bs ring := ⟨h.hr, blk_keep h.blk hc (hS a (.inl rfl)), ownsRow_keep h.own hc (fun g e => hS g (.inr e)), h.ok, h.n1, h.n2, h.dig⟩
theorem WinR.new {w w' : World} {B a : Nat} {v : Value} {n : Nat} {bs ring : List Nat} (h : WinR w B a v n bs ring) (hc : Chg (fun _ => False) w w') : WinR w' B a v n bs ring := h.keep hc (fun _ _ f => f)
theorem WinR.lt {w : World} {B a : Nat} {v : Value} {n : Nat} {bs ring : List Nat} (h : WinR w B a v n bs ring) {z : Nat} (f : Foot a v z) : B ≤ z ∧ z < w.heap.size := by
  rcases f with f | f
  · rw [f]; exact ⟨h.hr, lt_of_blk h.blk⟩
  · exact h.own.lt z f
theorem WinR.ne {w : World} {B a : Nat} {v : Value} {n : Nat} {bs ring : List Nat} (h : WinR w B a v n bs ring) : v.ownBlock ≠ some a := fun e => by
  obtain ⟨cur, hcur⟩ := owns_blk h.own e
  exact ty_ne hcur h.blk (by decide)
theorem WinR.small {w : World} {B a : Nat} {v : Value} {n : Nat} {bs ring : List Nat} (h : WinR w B a v n bs ring) : ring.length = fullN n bs ∧ ring.length ≤ 4294967295 ∧ ring.length ≤ n ∧ ring.length ≤ bs.length := by
  have := h.ok.len
  have := h.n2
  unfold fullN
  omega

theorem wnew_out (n : Int) (w : World) (h : n < 1 ∨ 4294967295 < n) : Calls Try.prog 17 #[.int .i64 n] w fun e w' => e = .returned (.tuple #[.pointer none, .int .i64 7]) ∧ Chg (fun _ => False) w w' := by
  by_cases h0 : n < 1
  · go_enter Try.func17, Try.ntmps17
    go_wp2
    go_ret2
    exact ⟨rfl, Chg.refl _ _⟩
  · have h1 : 4294967295 < n := by omega
    have hd : decide (n < 1) = false := by simp; omega
    have hd2 : decide (4294967295 < n) = true := by simp; omega
    go_enter Try.func17, Try.ntmps17
    go_wp2
    go_ret2
    exact ⟨rfl, Chg.refl _ _⟩
theorem wnew_in (n : Nat) (w : World) (h1 : 1 ≤ n) (h2 : n ≤ 4294967295) : Calls Try.prog 17 #[.int .i64 (n : Int)] w fun e w' => ∃ a v, e = .returned (.tuple #[.pointer (some ⟨a, 0, none⟩), .int .i64 0]) ∧ Win w' w.heap.size a v n [] ∧ Chg (fun _ => False) w w' := by
  have hd : decide ((n : Int) < 1) = false := by simp; omega
  have hd2 : decide (4294967295 < (n : Int)) = false := by simp; omega
  go_enter Try.func17, Try.ntmps17
  go_wp2
  go_ret2
  exact ⟨_, .slice none 0 0, rfl, ⟨[], Nat.le_refl _, heap_alloc_last _ _, World.ownsRow_nil _ _ _ _, RM.nil n, h1, h2, fun x hx => (List.not_mem_nil hx).elim⟩, chg_one _ _⟩
theorem wsize_q (B a : Nat) (v : Value) (n : Nat) (bs : List Nat) (w : World) (h : Win w B a v n bs) : Calls Try.prog 12 #[.pointer (some ⟨a, 0, none⟩)] w fun e w' => e = .returned (.int .i64 (n : Int)) ∧ ∃ k, w' = w.drewN k := by
  obtain ⟨ring, h⟩ := h
  obtain ⟨k0, k1, k2, _⟩ := cells3 h.blk
  clear h
  go_enter Try.func12, Try.ntmps12
  go_wp2
  go_ret
  exact ⟨rfl, 0, rfl⟩
theorem wpos_q (B a : Nat) (v : Value) (n : Nat) (bs : List Nat) (w : World) (h : Win w B a v n bs) : Calls Try.prog 13 #[.pointer (some ⟨a, 0, none⟩)] w fun e w' => e = .returned (.int .i64 (bs.length : Int)) ∧ ∃ k, w' = w.drewN k := by
  obtain ⟨ring, h⟩ := h
  obtain ⟨k0, k1, k2, _⟩ := cells3 h.blk
  clear h
  go_enter Try.func13, Try.ntmps13
  go_wp2
  go_ret
  exact ⟨rfl, 0, rfl⟩
theorem wfull_q (B a : Nat) (v : Value) (n : Nat) (bs : List Nat) (w : World) (h : Win w B a v n bs) : Calls Try.prog 11 #[.pointer (some ⟨a, 0, none⟩)] w fun e w' => e = .returned (.int .i64 ((fullN n bs : Nat) : Int)) ∧ ∃ k, w' = w.drewN k := by
  obtain ⟨ring, h⟩ := h
  obtain ⟨ad, c, hv⟩ := form1 h.own
  subst hv
  obtain ⟨k0, k1, k2, _⟩ := cells3 h.blk
  rw [← h.small.1]
  clear h
  generalize ring.length = R at *
  go_enter Try.func11, Try.ntmps11
  go_wp2
  go_ret
  exact ⟨rfl, 0, rfl⟩
theorem wholds_any {B a : Nat} {v : Value} {n : Nat} {bs ring : List Nat} (d : Int) (w : World) (h : WinR w B a v n bs ring) : Calls Try.prog 23 #[.pointer (some ⟨a, 0, none⟩), .int .i64 d] w fun e w' => e = .returned (.bool (decide (Inw n bs d))) ∧ Chg (fun _ => False) w w' := by
  obtain ⟨ad, c, hv⟩ := form1 h.own
  subst hv
  obtain ⟨k0, k1, k2, _⟩ := cells3 h.blk
  have hin : Inw n bs d ↔ 0 < d ∧ d ≤ (ring.length : Int) := by unfold Inw; rw [h.small.1]
  clear h
  generalize ring.length = R at *
  by_cases h0 : 0 < d
  · have hd : decide (1 ≤ d) = true := by simp; omega
    obtain ⟨t, ht⟩ : ∃ t, decide (d ≤ (R : Int)) = t := ⟨_, rfl⟩
    have HR : Hid (decide (Inw n bs d) = t) := by show _ = _; rw [← ht]; exact decide_eq_decide.2 ⟨fun f => (hin.1 f).2, fun f => hin.2 ⟨h0, f⟩⟩
    clear hin
    go_enter Try.func23, Try.ntmps23
    go_wp2
    go_ret
    exact ⟨by rw [HR.out]; rfl, Chg.refl _ _⟩
  · have hd : decide (1 ≤ d) = false := by simp; omega
    have HR : Hid (decide (Inw n bs d) = false) := decide_eq_false (fun f => h0 (hin.1 f).1)
    clear hin
    go_enter Try.func23, Try.ntmps23
    go_wp2
    go_ret
    exact ⟨by rw [HR.out]; rfl, Chg.refl _ _⟩
theorem tmod_nat (x n : Nat) : ((x : Int)).tmod (n : Int) = ((x % n : Nat) : Int) := by
  rw [Int.tmod_eq_emod_of_nonneg (Int.natCast_nonneg _)]
  exact (Int.natCast_emod x n).symm
theorem wback_any {B a : Nat} {v : Value} {n : Nat} {bs ring : List Nat} (d : Nat) (w : World) (h : WinR w B a v n bs ring) (hl : bs.length ≤ 1152921504606846976) (hd : d ≤ ring.length) : Calls Try.prog 27 #[.pointer (some ⟨a, 0, none⟩), .int .i64 (d : Int)] w fun e w' => e = .returned (.int .i64 (((bs.length - d) % n : Nat) : Int)) ∧ ∃ k, w' = w.drewN k := by
  obtain ⟨k0, k1, k2, _⟩ := cells3 h.blk
  have hdl : d ≤ bs.length := by have := h.small; omega
  obtain ⟨L, hL⟩ : ∃ L, bs.length = L := ⟨_, rfl⟩
  rw [hL] at k1 hl hdl ⊢
  obtain ⟨K, hK⟩ : ∃ K, L - d = K := ⟨_, rfl⟩
  have hki : (L : Int) - (d : Int) = (K : Int) := by omega
  have hkb : (K : Int) ≤ 1152921504606846976 := by omega
  have htm := tmod_nat K n
  rw [hK]
  obtain ⟨M, hM⟩ : ∃ M, K % n = M := ⟨_, rfl⟩
  rw [hM] at htm ⊢
  have hMl : (M : Int) ≤ 4294967295 := by have := Nat.mod_lt K (show 0 < n from h.n1); have := h.n2; omega
  have hn0 : (n : Int) ≠ 0 := by have := h.n1; omega
  have hn1 : (1 : Int) ≤ (n : Int) := by have := h.n1; omega
  have hn2 : (n : Int) ≤ 4294967295 := by have := h.n2; omega
  clear h hK hM hd
  go_enter Try.func27, Try.ntmps27
  go_wp2_with fail
  go_quiet (fail)
  go_wp2
  go_ret
  exact ⟨rfl, nq, rfl⟩
end Go.Proofs.Ythgibmhbgfjkcaa
