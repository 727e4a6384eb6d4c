/- The two tables of sixteen numbers in memory ('Tab'), and the contracts of put32 and put64: a byte is put in; of no statement by themselves. -/
import Derived.Test.YtmgjbkgooekihaaDoorBase
import Derived.Test.YtmgjbkgooekihaaDoorCrc
import Derived.Laws.BitsAllLaws
namespace Go.Proofs.YtmgjbkgooekihaaDoor
open Go.RowKit

/-- The tables' blocks, as the program lays them. -/
structure Tab (w : World) : Prop where
  t32 : ∀ k, k < 16 → w.cell? ⟨0, k, none⟩ = some (.int .u32 (Crc.itr Crc.P32 4 k : Nat))
  t64 : ∀ k, k < 16 → w.cell? ⟨1, k, none⟩ = some (.int .u64 (Crc.itr Crc.P64 4 k : Nat))

theorem Tab.keep {w w' : World} {S : Nat → Prop} (h : Tab w) (hc : Chg S w w') (h0 : ¬ S 0) (h1 : ¬ S 1) : Tab w' := by
  refine ⟨fun k hk => ?_, fun k hk => ?_⟩
  · have e := h.t32 k hk
    rw [World.cell?_of_block (w := w) (hc.block _ (World.block_lt_of_cell? w _ e) h0)]
    exact e
  · have e := h.t64 k hk
    rw [World.cell?_of_block (w := w) (hc.block _ (World.block_lt_of_cell? w _ e) h1)]
    exact e

theorem Tab.two {w : World} (h : Tab w) : 1 < w.heap.size := World.block_lt_of_cell? w _ (h.t64 0 (by omega))

theorem Tab.up {w w' : World} {B : Nat} (h : Tab w) (hc : Chg (fun k => B ≤ k) w w') (hB : 1 < B) : Tab w' := h.keep hc (by omega) (by omega)
theorem Tab.new {w w' : World} (h : Tab w) (hc : Chg (fun _ => False) w w') : Tab w' := h.keep hc (fun f => f) (fun f => f)

theorem xor32 (a b : Nat) (ha : a < 4294967296) (hb : b < 4294967296) : bits .xor .u32 (a : Int) (b : Int) = ((a ^^^ b : Nat) : Int) := u32_xor_nat a b ha hb

theorem half32 (a : Nat) (ha : a < 4294967296) : bits .xor .u32 ((a : Int) / 16) ((Crc.itr Crc.P32 4 (a % 16) : Nat) : Int) = ((Crc.itr Crc.P32 4 a : Nat) : Int) := by
  have h1 : ((a : Int) / 16) = ((a / 16 : Nat) : Int) := by omega
  have hb : Crc.itr Crc.P32 4 (a % 16) < 4294967296 := Crc.itr_lt Crc.p32_lt 4 (by omega)
  rw [h1, xor32 _ _ (by omega) hb, Crc.itr_low Crc.P32 4 a]

theorem put32_any (s x : Nat) (w : World) (hT : Tab w) (hs : s < 4294967296) (hx : x < 256) :
    Calls Tryd.prog 26 #[.int .u32 s, .int .u8 x] w fun e w' => e = .returned (.int .u32 (Crc.put Crc.P32 s x : Nat)) ∧ w = w' := by
  have hxx : x < 4294967296 := by omega
  have h1 := xor32 s x hs hxx
  have ha : s ^^^ x < 4294967296 := Nat.xor_lt_two_pow (n := 32) hs hxx
  have HR : Hid (Crc.put Crc.P32 s x = Crc.itr Crc.P32 4 (Crc.itr Crc.P32 4 (s ^^^ x))) := Crc.itr_add Crc.P32 4 4 _
  generalize s ^^^ x = a at *
  have h2 := half32 a ha
  have c1 := hT.t32 (a % 16) (by omega)
  have hb : Crc.itr Crc.P32 4 a < 4294967296 := Crc.itr_lt Crc.p32_lt 4 ha
  generalize Crc.itr Crc.P32 4 a = b at *
  have h3 := half32 b hb
  have c2 := hT.t32 (b % 16) (by omega)
  clear hT
  go_enter Tryd.func26, Tryd.ntmps26
  go_wp2
  go_ret
  exact ⟨by rw [HR.out]; rfl, rfl⟩
theorem xor64 (a b : Nat) (ha : a < 18446744073709551616) (hb : b < 18446744073709551616) : bits .xor .u64 (a : Int) (b : Int) = ((a ^^^ b : Nat) : Int) := u64_xor_nat a b ha hb

theorem half64 (a : Nat) (ha : a < 18446744073709551616) : bits .xor .u64 ((a : Int) / 16) ((Crc.itr Crc.P64 4 (a % 16) : Nat) : Int) = ((Crc.itr Crc.P64 4 a : Nat) : Int) := by
  have h1 : ((a : Int) / 16) = ((a / 16 : Nat) : Int) := by omega
  have hb : Crc.itr Crc.P64 4 (a % 16) < 18446744073709551616 := Crc.itr_lt Crc.p64_lt 4 (by omega)
  rw [h1, xor64 _ _ (by omega) hb, Crc.itr_low Crc.P64 4 a]

theorem put64_any (s x : Nat) (w : World) (hT : Tab w) (hs : s < 18446744073709551616) (hx : x < 256) :
    Calls Tryd.prog 28 #[.int .u64 s, .int .u8 x] w fun e w' => e = .returned (.int .u64 (Crc.put Crc.P64 s x : Nat)) ∧ w = w' := by
  have hxx : x < 18446744073709551616 := by omega
  have h1 := xor64 s x hs hxx
  have ha : s ^^^ x < 18446744073709551616 := Nat.xor_lt_two_pow (n := 64) hs hxx
  have HR : Hid (Crc.put Crc.P64 s x = Crc.itr Crc.P64 4 (Crc.itr Crc.P64 4 (s ^^^ x))) := Crc.itr_add Crc.P64 4 4 _
  generalize s ^^^ x = a at *
  have h2 := half64 a ha
  have c1 := hT.t64 (a % 16) (by omega)
  have hb : Crc.itr Crc.P64 4 a < 18446744073709551616 := Crc.itr_lt Crc.p64_lt 4 ha
  generalize Crc.itr Crc.P64 4 a = b at *
  have h3 := half64 b hb
  have c2 := hT.t64 (b % 16) (by omega)
  clear hT
  go_enter Tryd.func28, Tryd.ntmps28
  go_wp2
  go_ret
  exact ⟨by rw [HR.out]; rfl, rfl⟩
end Go.Proofs.YtmgjbkgooekihaaDoor
