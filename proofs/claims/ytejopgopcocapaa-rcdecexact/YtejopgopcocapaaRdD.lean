/- The contracts of the document's Done and New; of no statement by themselves. -/
import Derived.Test.YtejopgopcocapaaRdC
import Derived.Test.YtejopgopcocapaaBk
import Derived.BigQuiet
namespace Go.Proofs.Ytejopgopcocapaa
open Go.RowKit
set_option linter.unusedVariables false

set_option maxHeartbeats 1000000 in
set_option maxRecDepth 100000 in
theorem rddone_any (B r : Nat) (v : Value) (bs : List Nat) (d : Rc.D) (w : World) (h : Rdc w B r v bs d) : Calls Try.prog 25 #[.pointer (some ⟨r, 0, none⟩)] w fun e w' => e = .returned (.bool (decide (d.n = bs.length ∧ d.C = 0))) ∧ Chg (fun _ => False) w w' := by
  obtain ⟨ad, cap, hv, _⟩ := own_any h.own
  obtain ⟨L, hL⟩ : ∃ L, bs.length = L := ⟨_, rfl⟩
  rw [hL] at hv ⊢
  rw [hv] at h
  obtain ⟨k0, k1, _, k3, _⟩ := rcells4 h.blk
  obtain ⟨c, hc⟩ : ∃ c : Int, c = (d.C : Int) := ⟨_, rfl⟩
  obtain ⟨n, hn⟩ : ∃ n : Int, n = (d.n : Int) := ⟨_, rfl⟩
  rw [← hc] at k3
  rw [← hn] at k1
  clear h hv hL
  by_cases hnL : n = (L : Int)
  · by_cases hc0 : c = 0
    · have hd : decide (n = (L : Int)) = true := by simp [hnL]
      have hd2 : decide (c = 0) = true := by simp [hc0]
      have hE : decide (d.n = L ∧ d.C = 0) = true := by simp; omega
      rw [hE]
      clear hE hn hc
      subst hnL hc0
      go_enter Try.func25, Try.ntmps25
      go_wp2_with fail
      go_quiet (fail)
      go_wp2
      go_ret
      exact ⟨rfl, chg_drewN _ _⟩
    · have hd : decide (n = (L : Int)) = true := by simp [hnL]
      have hd2 : decide (c = 0) = false := by simp [hc0]
      have hE : decide (d.n = L ∧ d.C = 0) = false := by simp; omega
      rw [hE]
      have hb0 : (c == 0) = false := by simpa using hc0
      clear hE hn hc
      subst hnL
      go_enter Try.func25, Try.ntmps25
      go_wp2_with fail
      go_quiet (fail)
      go_wp2
      go_ret
      exact ⟨rfl, chg_drewN _ _⟩
  · have hd : decide (n = (L : Int)) = false := by simp [hnL]
    have hE : decide (d.n = L ∧ d.C = 0) = false := by simp; omega
    rw [hE]
    clear hE hn hc
    go_enter Try.func25, Try.ntmps25
    go_wp2_with fail
    go_quiet (fail)
    go_wp2
    go_ret
    exact ⟨rfl, chg_drewN _ _⟩

theorem ref8new_short (a : Option Addr) (n c : Nat) (w : World) (hn : n < 5) : Calls Try.prog 20 #[.slice a n c] w fun e w' => e = .returned (.tuple #[.pointer none, .int .i64 1]) ∧ w = w' := by
  have h1 : (n : Int) < 5 := by omega
  go_enter Try.func20, Try.ntmps20
  go_wp2
  go_ret2
  exact ⟨rfl, rfl⟩

theorem alloc_le (w : World) (o : Obj) : w.heap.size ≤ (w.alloc o).heap.size := (Chg.refl (fun _ => False) w).alloc o |>.size
/-- The code of the first i bytes. -/
def codeTo (b : List Nat) : Nat → Nat
  | 0 => 0
  | i + 1 => 256 * codeTo b i + b.getD (i + 1) 0
theorem codeTo_five (b : List Nat) : codeTo b 4 = Rc.code5 b := by
  simp only [codeTo, Rc.code5, Nat.zero_add, Nat.reduceAdd]
  omega
theorem codeTo_lt {b : List Nat} (h : Rc.Dig b) : ∀ i, codeTo b i < 256 ^ i
  | 0 => by show 0 < 256 ^ 0; decide
  | i + 1 => by
    have h1 := codeTo_lt h i
    have h2 := dig_at h (i + 1)
    rw [codeTo, Nat.pow_succ]
    omega


set_option maxHeartbeats 2000000 in
set_option maxRecDepth 100000 in
theorem ref8new_long (a : Option Addr) (n c : Nat) (bs : List Nat) (w : World) (hx : Row8 w a n c (nums bs)) (hg : Rc.Dig bs) (hn : 5 ≤ n) (hl : n ≤ 140737488355328) : Calls Try.prog 20 #[.slice a n c] w fun e w' =>
    ((bs.getD 0 0 ≠ 0 ∨ Rc.code5 bs = 4294967295) ∧ e = .returned (.tuple #[.pointer none, .int .i64 2]) ∧ w = w')
    ∨ (bs.getD 0 0 = 0 ∧ Rc.code5 bs < 4294967295 ∧ ∃ r v, e = .returned (.tuple #[.pointer (some ⟨r, 0, none⟩), .int .i64 0]) ∧ w.heap.size ≤ r ∧ Rdc w' w.heap.size r v bs ⟨5, 4294967295, Rc.code5 bs⟩ ∧ Chg (fun _ => False) w w') := by
  obtain ⟨x, rfl, hcell⟩ := Bk.row8_cells hx (by omega)
  have hlen : bs.length = n := by have := hx.1; rw [nums_len] at this; exact this
  have hat : ∀ k, (nums bs).getD k 0 = ((bs.getD k 0 : Nat) : Int) := fun k => by simp [nums, List.getD_eq_getElem?_getD]; cases bs[k]? <;> rfl
  have hcl : ∀ k, k < n → w.cell? (x.add k) = some (.int .u8 ((bs.getD k 0 : Nat) : Int)) := fun k hk => by
    have h1 := hcell k hk
    rw [hat] at h1
    exact h1
  have h5 : ¬ ((n : Int) < 5) := by omega
  have hd5 : decide ((n : Int) < 5) = false := by simp; omega
  have HX : Hid (Row8 w (some x) n c (nums bs)) := hx
  clear hcell hx
  go_enter Try.func20, Try.ntmps20
  go_wp2_with fail
  go_loopw [4, 5] (fun cv iv wr => ∃ i : Nat, i ≤ 4 ∧ iv = .int .i64 ((i : Int) + 1) ∧ cv = .int .i64 (codeTo bs i : Int) ∧ wr = w) (fun _ iv _ => 5 - (intOf iv).toNat)
  case atStart => exact ⟨0, by omega, rfl, rfl, rfl⟩
  case round =>
    obtain ⟨i, hi, rfl, rfl, rfl⟩ := hrel
    by_cases h4 : i < 4
    · have hlt := codeTo_lt hg i
      have hp : (256 : Nat) ^ i ≤ 256 ^ 3 := Nat.pow_le_pow_right (by omega) (by omega)
      have hb := dig_at hg (i + 1)
      obtain ⟨y, hy⟩ : ∃ y : Nat, y = codeTo bs i := ⟨_, rfl⟩
      obtain ⟨j, hj⟩ : ∃ j : Nat, j = i + 1 := ⟨_, rfl⟩
      obtain ⟨b, hb'⟩ : ∃ y : Nat, y = bs.getD (i + 1) 0 := ⟨_, rfl⟩
      have hc1 := hcl (i + 1) (by omega)
      rw [← hb', ← hj] at hc1
      rw [← hy, show (i : Int) + 1 = (j : Int) by omega]
      have HY : Hid (codeTo bs (i + 1) = 256 * y + b) := by show codeTo bs (i + 1) = _; rw [codeTo, hy, hb']
      have y1 : (y : Int) < 16777216 := by omega
      have b1 : (b : Int) < 256 := by omega
      have hin : (j : Int) < (n : Int) := by omega
      have hin2 : j < n := by omega
      have h5i : (j : Int) < 5 := by omega
      have HJ : Hid (j = i + 1) := hj
      clear hlt hp hb hy hb' hcl hj h4 hi hlen hat h5
      go_wp2_with fail
      go_roundw
      case rel =>
        have hj : j = i + 1 := HJ.out
        exact ⟨i + 1, by omega, by go_num, by rw [HY.out]; go_num, trivial⟩
      case measure =>
        have hj : j = i + 1 := HJ.out
        simp [intOf]
        omega
    · obtain rfl : i = 4 := by omega
      rw [codeTo_five]
      have hlt := codeTo_lt hg 4
      rw [codeTo_five] at hlt
      have hc0 := hcl 0 (by omega)
      have hb := dig_at hg 0
      obtain ⟨b, hb'⟩ : ∃ b : Nat, b = bs.getD 0 0 := ⟨_, rfl⟩
      obtain ⟨q, hq⟩ : ∃ q : Nat, q = Rc.code5 bs := ⟨_, rfl⟩
      rw [← hb'] at hc0 hb
      rw [← hq] at hlt ⊢
      have HB : Hid (bs.getD 0 0 = b) := hb'.symm
      have HQ : Hid (Rc.code5 bs = q) := hq.symm
      have HL : Hid (bs.length = n) := hlen
      clear hb' hq
      replace hc0 : wr.cell? x = some (.int .u8 (b : Int)) := hc0
      have b1 : (b : Int) < 256 := by omega
      have q1 : (q : Int) < 4294967296 := by omega
      have h0n : (0 : Int) < (n : Int) := by omega
      have h0n2 : 0 < n := by omega
      clear hcl hlen hat h5 hi h4 hlt hb
      by_cases hbz : b = 0
      · by_cases hqm : q = 4294967295
        · subst hbz hqm
          go_wp2
          go_ret2
          exact .inl ⟨.inr HQ.out, rfl, rfl⟩
        · have hdq : decide ((q : Int) = 4294967295) = false := by simp; omega
          have hbq : ((q : Int) == 4294967295) = false := beq_eq_false_iff_ne.2 (by omega)
          have HQ1 : Hid (q < 4294967295) := by show q < _; omega
          clear hqm q1
          subst hbz
          obtain ⟨i0, hi, hz0, hz1, hz2⟩ := info_parts infoU8
          have hone := ins_one .u8 (nums bs)
          obtain ⟨W1, hW1⟩ : ∃ W1, W1 = wr.alloc (.cells #[.slice none 0 0, .int .i64 5, .int .i64 4294967295, .int .i64 (q : Int)] 86) := ⟨_, rfl⟩
          have c1 : Chg (fun _ => False) wr W1 := by rw [hW1]; exact chg_one wr _
          have HSZ : Hid (wr.heap.size ≤ W1.heap.size) := by rw [hW1]; exact alloc_le wr _
          have hb1 : W1.heap[wr.heap.size]? = some (.cells #[.slice none 0 0, .int .i64 5, .int .i64 4294967295, .int .i64 (q : Int)] 86 (0, 0)) := by rw [hW1]; exact heap_alloc_last wr _
          have hF : From W1 (some x) n c 1 (ins .u8 (nums bs)) := (Bk.row8_chg HX.out c1).src
          have HC1 : Hid (Chg (fun _ => False) wr W1) := c1
          have HB1 : Hid (W1.heap[wr.heap.size]? = some (.cells #[.slice none 0 0, .int .i64 5, .int .i64 4294967295, .int .i64 (q : Int)] 86 (0, 0))) := hb1
          have hlen : (ins .u8 (nums bs)).length = n := by have := HL.out; simp [ins, nums]; omega
          subst hW1
          clear c1 hb1
          go_wp2_with (at_builtin; refine wpList_append_moved rfl _ _ 22 rfl wr.heap.size 5 i0 (.int .u8 0) 1 1 Try.underlying22 hi hz0 hz1 hz2 rfl (by decide) _ 0 [] rfl (some x) n c rfl (ins .u8 (nums bs)) (World.ownsRow_nil _ _ _ _) hF hone (by unfold maxLen; omega) (by omega) HSZ.out ?_)
          intro v2 w2 ho hg2 hm
          have c2 := (Chg.refl (fun _ => False) _).grown hg2 (fun k e => by cases e)
          have hb2 := blk_keep HB1.out c2 (fun f => f)
          have ho2 : w2.ownsRow wr.heap.size 5 1 v2 bs.length (ins .u8 (nums bs)) := by rw [HL.out]; simpa using ho
          obtain ⟨ad2, cap2, hv2, _⟩ := own_any ho2
          have hne : v2.ownBlock ≠ some wr.heap.size := fun e => by
            obtain ⟨cur, hcur⟩ := owns_blk ho2 e
            exact ty_ne hb2 hcur (by decide)
          have b3 := blk_setk (l := [.slice none 0 0, .int .i64 5, .int .i64 4294967295, .int .i64 (q : Int)]) hb2 0 v2
          have c3 : Chg (fun z => z = wr.heap.size) w2 (w2.setCell ⟨wr.heap.size, 0, none⟩ v2) := (Chg.refl (fun z => z = wr.heap.size) w2).setCell (p := ⟨wr.heap.size, 0, none⟩) (.inl rfl) _
          have H3 : Hid (Rdc (w2.setCell ⟨wr.heap.size, 0, none⟩ v2) wr.heap.size wr.heap.size v2 bs ⟨5, 4294967295, Rc.code5 bs⟩) := by
            show Rdc _ _ _ _ _ _
            rw [HQ.out]
            exact ⟨Nat.le_refl _, b3, ownsRow_keep ho2 c3 (fun g e e2 => hne (by rw [← e2]; exact e)), hg⟩
          have HC3 : Hid (Chg (fun _ => False) wr (w2.setCell ⟨wr.heap.size, 0, none⟩ v2)) := (chg_then HC1.out c2).trans c3 (fun z e => .inr (Nat.le_of_eq e.symm))
          obtain ⟨k0, _, _, _, kf⟩ := rcells4 hb2
          have kf0 := kf 0
          clear ho hg2 hm hF c2 ho2 hne b3 c3 kf hlen hg hb2
          subst hv2
          go_wp2
          go_ret2
          exact .inr ⟨HB.out, by rw [HQ.out]; exact HQ1.out, _, _, rfl, Nat.le_refl _, H3.out, HC3.out⟩
      · have hdb : decide ((b : Int) = 0) = false := by simp; omega
        go_wp2
        go_ret2
        exact .inl ⟨.inl (by rw [HB.out]; exact hbz), rfl, rfl⟩
end Go.Proofs.Ytejopgopcocapaa
