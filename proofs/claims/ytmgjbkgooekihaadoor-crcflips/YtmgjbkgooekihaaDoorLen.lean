/- How many bits a number has: the contract of Len32; of no statement by itself. -/
import Derived.Test.YtmgjbkgooekihaaDoorBurst
import Derived.Test.YtmgjbkgooekihaaDoorRoom
namespace Go.Proofs.YtmgjbkgooekihaaDoor
open Go.RowKit

/-- How many bits a byte has. -/
def len8 (y : Nat) : Nat := if y < 1 then 0 else if y < 2 then 1 else if y < 4 then 2 else if y < 8 then 3 else if y < 16 then 4 else if y < 32 then 5 else if y < 64 then 6 else if y < 128 then 7 else 8

theorem len8_le (y : Nat) : len8 y ≤ 8 := by
  unfold len8
  repeat' split
  all_goals omega

theorem run_len8 (s : ByteArray) (hs : ((List.range 256).all fun y => s.data[y]? == some (UInt8.ofNat (len8 y))) = true) (y : Nat) (hy : y < 256) (w : World) : (Instr.index 9 (.string s) (.int .u8 (y : Int))).run Tryd.prog w = .ok (.int .u8 (len8 y : Nat)) w := by
  have h := List.all_eq_true.1 hs y (List.mem_range.2 hy)
  rw [beq_iff_eq] at h
  have hsz : y < s.size := (Array.getElem?_eq_some_iff.1 h).1
  have hv : s[y] = UInt8.ofNat (len8 y) := (Array.getElem?_eq_some_iff.1 h).2
  have hl := len8_le y
  rw [run_index_string w 9 s .u8 (y : Int) Tryd.underlying9, dif_pos ⟨by omega, by omega⟩]
  simp only [Int.toNat_natCast, hv, UInt8.toNat_ofNat']
  congr 3
  omega

theorem wpList_len8 {w : World} {ops : Array Oper} {rest : List Oper} {o : Oper} {a : Act} {Q : Exit → Act → World → Prop} (hgd : o.guard = none) (s : ByteArray) (x : Operand)
    (ho : o.op = .index 9 (.const (.string s)) x) (hs : ((List.range 256).all fun y => s.data[y]? == some (UInt8.ofNat (len8 y))) = true) (y : Nat) (hx : a.eval x = .int .u8 (y : Int)) (hy : y < 256)
    (h : wpList Tryd.prog ops Q rest (a.put o.dst (.int .u8 (len8 y : Nat))) w) : wpList Tryd.prog ops Q (o :: rest) a w := by
  refine wpList_plain hgd fun K hK => ?_
  unfold Oper.wp execOp
  simp only [ho, hx, show a.eval (.const (.string s)) = .string s from rfl, run_len8 s hs y hy, Sem.run_bind, Sem.run_pure, Result.andThen]
  exact hK _ _ h

/-- So many bits. -/
def Bits (x L : Nat) : Prop := x < 2 ^ L ∧ (0 < L → 2 ^ (L - 1) ≤ x)

theorem Bits.unique {x L M : Nat} (h : Bits x L) (k : Bits x M) : L = M := by
  rcases Nat.lt_trichotomy L M with e | e | e
  · have h1 := k.2 (by omega)
    have h2 := h.1
    have h3 : 2 ^ L ≤ 2 ^ (M - 1) := Nat.pow_le_pow_right (by decide) (by omega)
    omega
  · exact e
  · have h1 := h.2 (by omega)
    have h2 := k.1
    have h3 : 2 ^ M ≤ 2 ^ (L - 1) := Nat.pow_le_pow_right (by decide) (by omega)
    omega

theorem bits8 (y : Nat) (h : y < 256) : Bits y (len8 y) := by
  unfold Bits len8
  repeat' split
  all_goals (refine ⟨by omega, fun _ => by omega⟩)

theorem Bits.up {x q L k : Nat} (h : Bits q L) (hq : x / 2 ^ k = q) (h0 : 0 < q) : Bits x (L + k) := by
  have hL : 0 < L := by
    rcases Nat.eq_zero_or_pos L with e | e
    · subst e; have := h.1; omega
    · exact e
  have h1 := h.1
  have h2 := h.2 hL
  have hp := Nat.two_pow_pos k
  refine ⟨?_, fun _ => ?_⟩
  · rw [Nat.pow_add]
    exact (Nat.div_lt_iff_lt_mul hp).1 (by rw [hq]; exact h1)
  · rw [show L + k - 1 = (L - 1) + k by omega, Nat.pow_add]
    exact (Nat.le_div_iff_mul_le hp).1 (by rw [hq]; exact h2)

set_option maxRecDepth 10000000 in
set_option maxHeartbeats 20000000 in
theorem len32_any (x : Nat) (w : World) (hx : x < 4294967296) :
    Calls Tryd.prog 30 #[.int .u32 x] w fun e w' => ∃ L : Nat, e = .returned (.int .i64 L) ∧ L ≤ 32 ∧ Bits x L ∧ w = w' := by
  by_cases h1 : 65536 ≤ x
  · obtain ⟨q, hq⟩ : ∃ q, x / 65536 = q := ⟨_, rfl⟩
    have hqi : (x : Int) / 65536 = (q : Int) := by omega
    by_cases h2 : 256 ≤ q
    · obtain ⟨y, hy⟩ : ∃ y, q / 256 = y := ⟨_, rfl⟩
      have hyi : (q : Int) / 256 = (y : Int) := by omega
      have hy8 : y < 256 := by omega
      have HB : Hid (Bits x (len8 y + 24)) := by
        have e : x / 2 ^ 24 = y := by omega
        exact (bits8 y hy8).up e (by omega)
      have hl := len8_le y
      clear hq hy
      go_enter Tryd.func30, Tryd.ntmps30
      go_wp2_with (refine wpList_len8 rfl _ (.tmp 15) rfl (by kernel_rfl) y rfl hy8 ?_)
      go_ret
      exact ⟨24 + len8 y, by go_num, by omega, by rw [Nat.add_comm]; exact HB.out, rfl⟩
    · have hy8 : q < 256 := by omega
      have HB : Hid (Bits x (len8 q + 16)) := by
        have e : x / 2 ^ 16 = q := by omega
        exact (bits8 q hy8).up e (by omega)
      have hl := len8_le q
      clear hq
      go_enter Tryd.func30, Tryd.ntmps30
      go_wp2_with (refine wpList_len8 rfl _ (.tmp 15) rfl (by kernel_rfl) q rfl hy8 ?_)
      go_ret
      exact ⟨16 + len8 q, by go_num, by omega, by rw [Nat.add_comm]; exact HB.out, rfl⟩
  · by_cases h2 : 256 ≤ x
    · obtain ⟨y, hy⟩ : ∃ y, x / 256 = y := ⟨_, rfl⟩
      have hyi : (x : Int) / 256 = (y : Int) := by omega
      have hy8 : y < 256 := by omega
      have HB : Hid (Bits x (len8 y + 8)) := by
        have e : x / 2 ^ 8 = y := by omega
        exact (bits8 y hy8).up e (by omega)
      have hl := len8_le y
      clear hy
      go_enter Tryd.func30, Tryd.ntmps30
      go_wp2_with (refine wpList_len8 rfl _ (.tmp 15) rfl (by kernel_rfl) y rfl hy8 ?_)
      go_ret
      exact ⟨8 + len8 y, by go_num, by omega, by rw [Nat.add_comm]; exact HB.out, rfl⟩
    · have hy8 : x < 256 := by omega
      have HB : Hid (Bits x (len8 x)) := bits8 x hy8
      have hl := len8_le x
      go_enter Tryd.func30, Tryd.ntmps30
      go_wp2_with (refine wpList_len8 rfl _ (.tmp 15) rfl (by kernel_rfl) x rfl hy8 ?_)
      go_ret
      exact ⟨len8 x, by go_num, by omega, HB.out, rfl⟩
end Go.Proofs.YtmgjbkgooekihaaDoor
