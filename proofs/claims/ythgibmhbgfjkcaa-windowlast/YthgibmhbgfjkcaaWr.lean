/- The contracts of the document's window; of no statement by themselves. -/
import Derived.Test.YthgibmhbgfjkcaaWb
namespace Go.Proofs.Ythgibmhbgfjkcaa
open Go.RowKit
set_option linter.unusedVariables false

/-- The document's window at r: its size, all bytes that came (the slice v). -/
structure Rw (w : World) (B r : Nat) (v : Value) (n : Nat) (bs : List Nat) : Prop where
  hr : B ≤ r
  blk : w.heap[r]? = some (.cells #[.int .i64 (n : Int), v] 64 (0, 0))
  own : w.ownsRow B 5 1 v bs.length (ins .u8 (nums bs))
theorem Rw.keep {w w' : World} {S : Nat → Prop} {B r : Nat} {v : Value} {n : Nat} {bs : List Nat} (h : Rw w B r v n bs) (hc : Chg S w w') (hS : ∀ z, Foot r v z → ¬ S z) : Rw w' B r v n bs := ⟨h.hr, blk_keep h.blk hc (hS r (.inl rfl)), ownsRow_keep h.own hc (fun g e => hS g (.inr e))⟩
theorem Rw.new {w w' : World} {B r : Nat} {v : Value} {n : Nat} {bs : List Nat} (h : Rw w B r v n bs) (hc : Chg (fun _ => False) w w') : Rw w' B r v n bs := h.keep hc (fun _ _ f => f)
theorem Rw.lt {w : World} {B r : Nat} {v : Value} {n : Nat} {bs : List Nat} (h : Rw w B r v n bs) {z : Nat} (f : Foot r v z) : B ≤ z ∧ z < w.heap.size := by
  rcases f with f | f
  · rw [f]; exact ⟨h.hr, lt_of_blk h.blk⟩
  · exact h.own.lt z f
theorem Rw.down {w : World} {B B' r : Nat} {v : Value} {n : Nat} {bs : List Nat} (h : Rw w B r v n bs) (hB : B' ≤ B) : Rw w B' r v n bs := ⟨Nat.le_trans hB h.hr, h.blk, owns_base h.own hB⟩

theorem rnew_out (n : Int) (w : World) (h : n < 1 ∨ 4294967295 < n) : Calls Try.prog 18 #[.int .i64 n] w fun e w' => e = .returned (.tuple #[.pointer none, .int .i64 7]) ∧ w = w' := by
  by_cases h0 : n < 1
  · go_enter Try.func18, Try.ntmps18
    go_wp2
    go_ret2
    exact ⟨rfl, rfl⟩
  · have h1 : 4294967295 < n := by omega
    have hd : decide (n < 1) = false := by simp; omega
    have hd2 : decide (4294967295 < n) = true := by simp; omega
    go_enter Try.func18, Try.ntmps18
    go_wp2
    go_ret2
    exact ⟨rfl, rfl⟩
theorem rnew_in (n : Nat) (w : World) (h1 : 1 ≤ n) (h2 : n ≤ 4294967295) : Calls Try.prog 18 #[.int .i64 (n : Int)] w fun e w' => ∃ r, e = .returned (.tuple #[.pointer (some ⟨r, 0, none⟩), .int .i64 0]) ∧ Rw w' w.heap.size r (.slice none 0 0) n [] ∧ Chg (fun _ => False) w w' := by
  have hd : decide ((n : Int) < 1) = false := by simp; omega
  have hd2 : decide (4294967295 < (n : Int)) = false := by simp; omega
  go_enter Try.func18, Try.ntmps18
  go_wp2
  go_ret2
  exact ⟨_, rfl, ⟨Nat.le_refl _, heap_alloc_last _ _, World.ownsRow_nil _ _ _ _⟩, chg_one _ _⟩

theorem rfull_q (B r : Nat) (v : Value) (n : Nat) (bs : List Nat) (w : World) (h : Rw w B r v n bs) (hn : n ≤ 4294967295) (hl : bs.length ≤ 140737488355328) : Calls Try.prog 33 #[.pointer (some ⟨r, 0, none⟩)] w fun e w' => e = .returned (.int .i64 ((fullN n bs : Nat) : Int)) ∧ ∃ k, w' = w.drewN k := by
  obtain ⟨ad, c, hv⟩ := form1 h.own
  subst hv
  have k0 := cell0 h.blk
  have k1 := cell1 h.blk
  unfold fullN
  clear h
  generalize bs.length = L at *
  by_cases hlt : L < n
  · have hd : decide ((L : Int) < (n : Int)) = true := by simp; omega
    have e1 : min L n = L := by omega
    rw [e1]
    go_enter Try.func33, Try.ntmps33
    go_wp2_with fail
    go_quiet (fail)
    have q0 := cell_chg k0 (chg_drewN w nq)
    have q1 := cell_chg k1 (chg_drewN w nq)
    go_wp2
    go_ret
    exact ⟨rfl, nq, rfl⟩
  · have hd : decide ((L : Int) < (n : Int)) = false := by simp; omega
    have e1 : min L n = n := by omega
    rw [e1]
    go_enter Try.func33, Try.ntmps33
    go_wp2_with fail
    go_quiet (fail)
    have q0 := cell_chg k0 (chg_drewN w nq)
    have q1 := cell_chg k1 (chg_drewN w nq)
    go_wp2
    go_ret
    exact ⟨rfl, nq, rfl⟩
theorem rfull_any (B r : Nat) (v : Value) (n : Nat) (bs : List Nat) (w : World) (h : Rw w B r v n bs) (hn : n ≤ 4294967295) (hl : bs.length ≤ 140737488355328) : Calls Try.prog 33 #[.pointer (some ⟨r, 0, none⟩)] w fun e w' => e = .returned (.int .i64 ((fullN n bs : Nat) : Int)) ∧ Chg (fun _ => False) w w' := (rfull_q B r v n bs w h hn hl).mono fun e w' ⟨h1, k, h2⟩ => ⟨h1, by rw [h2]; exact chg_drewN _ _⟩
/-- The distance is in the window. -/
def Inw (n : Nat) (bs : List Nat) (d : Int) : Prop := 0 < d ∧ d ≤ ((fullN n bs : Nat) : Int)
instance (n : Nat) (bs : List Nat) (d : Int) : Decidable (Inw n bs d) := by unfold Inw; infer_instance
theorem Inw.nat {n : Nat} {bs : List Nat} {d : Int} (h : Inw n bs d) : 1 ≤ d.toNat ∧ d.toNat ≤ bs.length ∧ d.toNat ≤ n ∧ ((d.toNat : Nat) : Int) = d := by
  obtain ⟨h1, h2⟩ := h
  unfold fullN at h2
  omega
theorem rhas_any (B r : Nat) (v : Value) (n : Nat) (bs : List Nat) (d : Int) (w : World) (h : Rw w B r v n bs) (hn : n ≤ 4294967295) (hl : bs.length ≤ 140737488355328) : Calls Try.prog 37 #[.pointer (some ⟨r, 0, none⟩), .int .i64 d] w fun e w' => e = .returned (.bool (decide (Inw n bs d))) ∧ Chg (fun _ => False) w w' := by
  have HF : Hid _ := rfull_any B r v n bs w h hn hl
  obtain ⟨F, hF⟩ : ∃ F, fullN n bs = F := ⟨_, rfl⟩
  have hin : Inw n bs d ↔ 0 < d ∧ d ≤ (F : Int) := by unfold Inw; rw [hF]
  rw [hF] at HF
  clear h hl hF
  by_cases h0 : 0 < d
  · have hd : decide (0 < d) = true := by simp; omega
    obtain ⟨t, ht⟩ : ∃ t, decide (d ≤ (F : Int)) = t := ⟨_, rfl⟩
    have HR : Hid (decide (Inw n bs d) = t) := by show _ = _; rw [← ht]; exact decide_eq_decide.2 ⟨fun f => (hin.1 f).2, fun f => hin.2 ⟨h0, f⟩⟩
    clear hin
    go_enter Try.func37, Try.ntmps37
    go_wp2_with fail
    refine Calls.mono HF.out ?_
    rintro z w1 ⟨rfl, c1⟩
    have HC : Hid (Chg (fun _ => False) w w1) := c1
    clear c1 HF
    go_wp2
    go_ret
    exact ⟨by rw [HR.out]; rfl, HC.out⟩
  · have hd : decide (0 < d) = false := by simp; omega
    have HR : Hid (decide (Inw n bs d) = false) := decide_eq_false (fun f => h0 (hin.1 f).1)
    clear HF hin
    go_enter Try.func37, Try.ntmps37
    go_wp2
    go_ret
    exact ⟨by rw [HR.out]; rfl, Chg.refl _ _⟩
theorem row8_cell {w : World} {ad : Option Addr} {m c : Nat} {bs : List Nat} {k b : Nat} (h : Row8 w ad m c (nums bs)) (hk : bs[k]? = some b) : ∃ x, ad = some x ∧ w.cell? (x.add k) = some (.int .u8 (b : Int)) := by
  rcases h.2 with ⟨_, e, _⟩ | ⟨x, e, hx⟩
  · have h1 := h.1
    rw [nums_len] at h1
    have := (List.getElem?_eq_some_iff.1 hk).1
    omega
  · exact ⟨x, e, hx k _ (by simp [nums, hk])⟩
theorem rlast_any (B r : Nat) (v : Value) (n : Nat) (bs : List Nat) (d : Int) (w : World) (h : Rw w B r v n bs) (hn : n ≤ 4294967295) (hl : bs.length ≤ 140737488355328) : Calls Try.prog 32 #[.pointer (some ⟨r, 0, none⟩), .int .i64 d] w fun e w' => ((¬ Inw n bs d ∧ e = .returned (.tuple #[.int .u8 0, .int .i64 7])) ∨ (Inw n bs d ∧ e = .returned (.tuple #[.int .u8 ((backB bs d.toNat : Nat) : Int), .int .i64 0]))) ∧ Chg (fun _ => False) w w' := by
  have HH : Hid _ := rhas_any B r v n bs d w h hn hl
  by_cases hi : Inw n bs d
  rotate_left
  · rw [decide_eq_false hi] at HH
    have HI : Hid (¬ Inw n bs d) := hi
    clear h hl hi
    go_enter Try.func32, Try.ntmps32
    go_wp2_with fail
    refine Calls.mono HH.out ?_
    rintro z w1 ⟨rfl, c1⟩
    have HC : Hid (Chg (fun _ => False) w w1) := c1
    clear c1 HH
    go_wp2
    go_ret2
    exact ⟨.inl ⟨HI.out, rfl⟩, HC.out⟩
  · rw [decide_eq_true hi] at HH
    have HI : Hid (Inw n bs d) := hi
    obtain ⟨i1, i2, i3, i4⟩ := hi.nat
    obtain ⟨D, hD⟩ : ∃ D, d.toNat = D := ⟨_, rfl⟩
    rw [hD] at i1 i2 i3 i4
    subst i4
    obtain ⟨L, hL⟩ : ∃ L, bs.length = L := ⟨_, rfl⟩
    have hbk := backB_at i1 i2
    rw [show ((D : Int)).toNat = D from Int.toNat_natCast D]
    obtain ⟨b, hb⟩ : ∃ b, backB bs D = b := ⟨_, rfl⟩
    obtain ⟨K, hK⟩ : ∃ K, K = bs.length - D := ⟨_, rfl⟩
    rw [hb, ← hK] at hbk
    rw [hb]
    obtain ⟨ad, c, hv⟩ := form1 h.own
    subst hv
    have HRW : Hid (Rw w B r (.slice ad bs.length c) n bs) := h
    have HBK : Hid (bs[K]? = some b) := hbk
    have hki : (L : Int) - (D : Int) = (K : Int) := by omega
    have hkl : K < L := by omega
    rw [hL] at HRW hl
    clear h hbk hb hK i1 i2 i3 hi hD
    go_enter Try.func32, Try.ntmps32
    go_wp2_with fail
    refine Calls.mono HH.out ?_
    rintro z w1 ⟨rfl, c1⟩
    have hr1 := HRW.out.new c1
    have k1 := cell1 hr1.blk
    have hrow : Row8 w1 ad L c (nums bs) := row8_own (by have := hr1.own; rw [hL] at this; exact this)
    obtain ⟨x, rfl, hcell⟩ := row8_cell hrow HBK.out
    have HC : Hid (Chg (fun _ => False) w w1) := c1
    clear c1 HH hr1 hrow hL
    go_wp2_with fail
    go_quiet (fail)
    have HC2 : Hid (Chg (fun _ => False) w (w1.drewN nq)) := chg_then HC.out (chg_drewN _ _)
    go_wp2
    go_ret2
    exact ⟨.inr ⟨HI.out, rfl⟩, HC2.out⟩
end Go.Proofs.Ythgibmhbgfjkcaa
