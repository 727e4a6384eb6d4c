/- The contract of the program's New; and all that is asked of its decoder, together; of no statement by themselves. -/
import Derived.Test.YtejopgopcocapaaDh
import Derived.Test.YtejopgopcocapaaEnF
namespace Go.Proofs.Ytejopgopcocapaa
open Go.RowKit
set_option linter.unusedVariables false

theorem or_lt32 {a b : Nat} (ha : a < 4294967296) (hb : b < 4294967296) : a ||| b < 4294967296 := Nat.or_lt_two_pow (n := 32) ha hb
theorem or_four (a b c d : Nat) (hb : b < 256) (hc : c < 256) (hd : d < 256) : ((a * 16777216 ||| b * 65536) ||| c * 256) ||| d = ((a * 256 + b) * 256 + c) * 256 + d := by
  have h1 : a * 16777216 ||| b * 65536 = a * 16777216 + b * 65536 := by
    have := Nat.two_pow_add_eq_or_of_lt (i := 24) (b := b * 65536) (by omega) a
    rw [Nat.mul_comm a]; exact this.symm
  have h2 : (a * 16777216 + b * 65536) ||| c * 256 = (a * 16777216 + b * 65536) + c * 256 := by
    have := Nat.two_pow_add_eq_or_of_lt (i := 16) (b := c * 256) (by omega) (a * 256 + b)
    have e : 2 ^ 16 * (a * 256 + b) = a * 16777216 + b * 65536 := by omega
    rw [e] at this; exact this.symm
  have h3 : (a * 16777216 + b * 65536 + c * 256) ||| d = (a * 16777216 + b * 65536 + c * 256) + d := by
    have := Nat.two_pow_add_eq_or_of_lt (i := 8) (b := d) (by omega) (a * 65536 + b * 256 + c)
    have e : 2 ^ 8 * (a * 65536 + b * 256 + c) = a * 16777216 + b * 65536 + c * 256 := by omega
    rw [e] at this; exact this.symm
  rw [h1, h2, h3]
  omega
theorem or_four32 (a b c d : Nat) (ha : a < 256) (hb : b < 256) (hc : c < 256) (hd : d < 256) :
    bits .or .u32 (bits .or .u32 (bits .or .u32 ((a : Int) * 16777216) ((b : Int) * 65536)) ((c : Int) * 256)) (d : Int) = ((((a * 256 + b) * 256 + c) * 256 + d : Nat) : Int) := by
  have e0 : ((a : Int) * 16777216) = ((a * 16777216 : Nat) : Int) := by omega
  have e1 : ((b : Int) * 65536) = ((b * 65536 : Nat) : Int) := by omega
  have e2 : ((c : Int) * 256) = ((c * 256 : Nat) : Int) := by omega
  have l1 : a * 16777216 ||| b * 65536 < 4294967296 := or_lt32 (by omega) (by omega)
  rw [e0, e1, e2, u32_or_nat _ _ (by omega) (by omega), u32_or_nat _ _ l1 (by omega), u32_or_nat _ _ (or_lt32 l1 (by omega)) (by omega), or_four a b c d hb hc hd]

set_option maxHeartbeats 1000000 in
set_option maxRecDepth 100000 in
theorem bclone_any (x : Addr) (n c : Nat) (bs : List Nat) (w : World) (h : Row8 w (some x) n c (nums bs)) (hn : n ≤ 140737488355328) :
    Calls Try.prog 27 #[.slice (some x) n c] w fun e w' => ∃ v', e = .returned v' ∧ w'.ownsRow w.heap.size 5 1 v' bs.length (ins .u8 (nums bs)) ∧ Chg (fun _ => False) w w' := by
  obtain ⟨i0, hi, hz0, hz1, hz2⟩ := info_parts infoU8
  have hone := ins_one .u8 (nums bs)
  have hl : bs.length = n := by have := h.1; rw [nums_len] at this; exact this
  have c1 := chg_one w (.cells #[] 5)
  have hF1 : From _ (some x) n c 1 (ins .u8 (nums bs)) := (Bk.row8_chg h c1).src
  have hE := own_empty w 5
  have hs : w.heap.size ≤ (w.alloc (.cells #[] 5)).heap.size := c1.size
  have heq := eq_nil8_some x n c w
  clear h
  go_enter Try.func27, Try.ntmps27
  go_wp2_with (at_builtin; refine wpList_append_moved rfl _ _ 22 rfl w.heap.size 5 i0 (.int .u8 0) 1 1 Try.underlying22 hi hz0 hz1 hz2 rfl (by decide) _ 0 [] rfl (some x) n c rfl (ins .u8 (nums bs)) hE hF1 hone (by unfold maxLen; omega) (by omega) hs ?_)
  intro v2 w2 ho hg hm
  have HC : Hid (Chg (fun _ => False) w w2) := c1.grown hg (fun k e => .inr (hE.lt k e).1)
  have HO : Hid (w2.ownsRow w.heap.size 5 1 v2 bs.length (ins .u8 (nums bs))) := by
    show World.ownsRow _ _ _ _ _ _ _
    rw [hl]
    simpa using ho
  clear ho hg hm hE hF1 c1
  go_wp2
  go_ret
  exact ⟨_, rfl, HO.out, HC.out⟩

theorem dnew_short (ad : Option Addr) (n c : Nat) (w : World) (h : n < 5) : Calls Try.prog 9 #[.slice ad n c] w fun x w' => x = .returned (.tuple #[.pointer none, .int .i64 1]) ∧ w = w' := by
  have h1 : decide ((n : Int) < 5) = true := by simp; omega
  have h2 : (n : Int) < 5 := by omega
  clear h
  go_enter Try.func9, Try.ntmps9
  go_wp2
  go_ret2
  exact ⟨rfl, rfl⟩
set_option maxHeartbeats 4000000 in
set_option maxRecDepth 100000 in
theorem dnew_long (ad : Option Addr) (n c : Nat) (bs : List Nat) (w : World) (h : Row8 w ad n c (nums bs)) (hdig : Rc.Dig bs) (hn : n ≤ 140737488355328) (h5 : 5 ≤ n) : Calls Try.prog 9 #[.slice ad n c] w fun x w' =>
    ((bs.getD 0 0 ≠ 0 ∨ Rc.code5 bs = 4294967295) ∧ x = .returned (.tuple #[.pointer none, .int .i64 2]) ∧ Chg (fun _ => False) w w')
    ∨ (bs.getD 0 0 = 0 ∧ Rc.code5 bs < 4294967295 ∧ ∃ r v, x = .returned (.tuple #[.pointer (some ⟨r, 0, none⟩), .int .i64 0]) ∧ Dcd w' w.heap.size r v bs ⟨5, 4294967295, Rc.code5 bs⟩ ∧ Chg (fun _ => False) w w') := by
  have HR : Hid (Row8 w ad n c (nums bs)) := h
  obtain ⟨x, hx, hcl⟩ := Bk.row8_cells h (by omega)
  have hg : ∀ k, (nums bs).getD k 0 = ((bs.getD k 0 : Nat) : Int) := fun k => by
    simp only [nums, List.getD_eq_getElem?_getD, List.getElem?_map]
    cases bs[k]? <;> rfl
  have k0 := hcl 0 (by omega)
  have k1 := hcl 1 (by omega)
  have k2 := hcl 2 (by omega)
  have k3 := hcl 3 (by omega)
  have k4 := hcl 4 (by omega)
  simp only [hg] at k0 k1 k2 k3 k4
  simp only [Addr.add, Nat.reduceEqDiff, if_false, if_true] at k0 k1 k2 k3 k4
  have d0 := dig_at hdig 0
  have d1 := dig_at hdig 1
  have d2 := dig_at hdig 2
  have d3 := dig_at hdig 3
  have d4 := dig_at hdig 4
  have ec : Rc.code5 bs = ((bs.getD 1 0 * 256 + bs.getD 2 0) * 256 + bs.getD 3 0) * 256 + bs.getD 4 0 := rfl
  rw [ec]
  generalize bs.getD 0 0 = b0 at *
  generalize bs.getD 1 0 = b1 at *
  generalize bs.getD 2 0 = b2 at *
  generalize bs.getD 3 0 = b3 at *
  generalize bs.getD 4 0 = b4 at *
  obtain ⟨cd, hcd⟩ : ∃ cd : Nat, cd = ((b1 * 256 + b2) * 256 + b3) * 256 + b4 := ⟨_, rfl⟩
  rw [← hcd]
  have HOR : Hid (bits .or .u32 (bits .or .u32 (bits .or .u32 ((b1 : Int) * 16777216) ((b2 : Int) * 65536)) ((b3 : Int) * 256)) (b4 : Int) = (cd : Int)) := by show _ = _; rw [hcd]; exact or_four32 b1 b2 b3 b4 d1 d2 d3 d4
  have y0 : (b0 : Int) < 256 := by omega
  have y1 : (b1 : Int) < 256 := by omega
  have y2 : (b2 : Int) < 256 := by omega
  have y3 : (b3 : Int) < 256 := by omega
  have y4 : (b4 : Int) < 256 := by omega
  have z1 : (b1 : Int) % 4294967296 = (b1 : Int) := by omega
  have z2 : (b2 : Int) % 4294967296 = (b2 : Int) := by omega
  have z3 : (b3 : Int) % 4294967296 = (b3 : Int) := by omega
  have z4 : (b4 : Int) % 4294967296 = (b4 : Int) := by omega
  have s1 : (b1 : Int) * 16777216 % 4294967296 = (b1 : Int) * 16777216 := by omega
  have s2 : (b2 : Int) * 65536 % 4294967296 = (b2 : Int) * 65536 := by omega
  have s3 : (b3 : Int) * 256 % 4294967296 = (b3 : Int) * 256 := by omega
  have q1 : decide ((n : Int) < 5) = false := by simp; omega
  have q2 : ¬ (n : Int) < 5 := by omega
  have q3 : 5 ≤ (n : Int) := by omega
  have hcd2 : cd ≤ 4294967295 := by omega
  have r0 : (0 : Int) < (n : Int) := by omega
  have t0 : 0 < n := by omega
  have r1 : (1 : Int) < (n : Int) := by omega
  have t1 : 1 < n := by omega
  have r2 : (2 : Int) < (n : Int) := by omega
  have t2 : 2 < n := by omega
  have r3 : (3 : Int) < (n : Int) := by omega
  have t3 : 3 < n := by omega
  have r4 : (4 : Int) < (n : Int) := by omega
  have t4 : 4 < n := by omega
  have HN : Hid (n ≤ 140737488355328) := hn
  subst hx
  clear hcl hg d0 d1 d2 d3 d4 ec hcd h hdig hn
  go_enter Try.func9, Try.ntmps9
  go_wp2_with fail
  go_quiet (fail)
  rename_i nq
  rw [HOR.out]
  have HC1 : Hid (Chg (fun _ => False) w (w.drewN nq)) := chg_drewN _ _
  have k0 := cell_chg k0 HC1.out
  have HR1 : Hid (Row8 (w.drewN nq) (some x) n c (nums bs)) := Bk.row8_chg HR.out HC1.out
  generalize w.drewN nq = w1 at *
  clear k1 k2 k3 k4 HR HOR s1 s2 s3 z1 z2 z3 z4 y1 y2 y3 y4
  by_cases hb : b0 = 0
  · have HB0 : Hid (b0 = 0) := hb
    have e9 : (b0 : Int) = 0 := by omega
    rw [e9] at k0
    clear e9 hb
    by_cases hc9 : cd = 4294967295
    · have HCD : Hid (cd = 4294967295) := hc9
      have e1 : ((cd : Int) == 4294967295) = true := by simp; omega
      have e2 : decide ((cd : Int) = 4294967295) = true := by simp; omega
      have e3 : (cd : Int) = 4294967295 := by omega
      rw [e3]
      clear hc9 hcd2
      go_wp2
      go_ret2
      exact .inl ⟨.inr HCD.out, rfl, HC1.out⟩
    · have HCD : Hid (cd < 4294967295) := by show _ < _; omega
      have e1 : ((cd : Int) == 4294967295) = false := by simp; omega
      have e2 : decide ((cd : Int) = 4294967295) = false := by simp; omega
      clear hc9 hcd2
      go_wp2_with fail
      refine (bclone_any x n c bs _ HR1.out HN.out).mono ?_
      rintro y w2 ⟨v2, rfl, ho2, hc2⟩
      have HO2 : Hid (w2.ownsRow w.heap.size 5 1 v2 bs.length (ins .u8 (nums bs))) := owns_base ho2 HC1.out.size
      have HC2 : Hid (Chg (fun _ => False) w w2) := chg_then HC1.out hc2
      obtain ⟨a2, cp2, hv2, _⟩ := own_any ho2
      subst hv2
      clear ho2 hc2
      go_wp2
      go_ret2
      refine .inr ⟨HB0.out, HCD.out, _, _, rfl, ⟨HC2.out.size, heap_alloc_last _ _, ownsRow_keep HO2.out (chg_one _ _) (fun _ _ f => f)⟩, chg_then HC2.out (chg_one _ _)⟩
  · have HB : Hid (b0 ≠ 0) := hb
    have e0 : ((b0 : Int) == 0) = false := by simp; omega
    have e2 : decide ((b0 : Int) = 0) = false := by simp; omega
    clear hb hcd2
    go_wp2
    go_ret2
    exact .inl ⟨.inl HB.out, rfl, HC1.out⟩

/-- All that is asked of the decoder. -/
theorem dec_spec : DecSpec Dcd where
  base := fun h => h.hr
  blk := fun h => ⟨_, h.blk⟩
  own := fun h => h.own
  keep := fun h hc h1 h2 => h.keep hc h1 h2
  down := fun h hB => ⟨Nat.le_trans hB h.hr, h.blk, owns_base h.own hB⟩
  new := fun ad n c bs w h hdig hn => by
    have hl : bs.length = n := by have := h.1; rw [nums_len] at this; exact this
    by_cases h5 : n < 5
    · exact (dnew_short ad n c w h5).mono fun x w' ⟨h1, h2⟩ => .inl ⟨by omega, h1, by rw [← h2]; exact Chg.refl _ _⟩
    · refine (dnew_long ad n c bs w h hdig hn (by omega)).mono fun x w' hx => ?_
      rcases hx with ⟨h1, h2, h3⟩ | ⟨h1, h2, h3⟩
      · exact .inr (.inl ⟨by omega, h1, h2, h3⟩)
      · exact .inr (.inr ⟨by omega, h1, h2, h3⟩)
  bit := fun B B' a s v u bs d xs i w h hO hdig hl hS hI hB => by
    by_cases hi : 0 ≤ i ∧ i < (xs.length : Int)
    · obtain ⟨j, rfl⟩ : ∃ j : Nat, (j : Int) = i := ⟨i.toNat, by omega⟩
      have hj : j < xs.length := by omega
      have hok : (⟨false, (j : Int), 0, 0⟩ : Q).ok xs.length := by unfold Q.ok; rw [if_neg (fun f => by cases f)]; exact hi
      have hp : pAt xs (j : Int) = xs[j] := by unfold pAt; simp [hj]
      refine (dbit_in B B' a s v u bs d xs j w h hO hdig hl hS hI hj _ rfl).mono fun x w' hx => ?_
      rcases hx with ⟨h1, h2, h3⟩ | ⟨d', h1, h2, h3⟩
      · refine .inl ⟨1, ?_, by decide, h2, h3⟩
        unfold decA
        rw [if_pos hok]
        simp only [Bool.false_eq_true, if_false]
        rw [hp, h1]
      · refine .inr ⟨(bt (Rc.oneD d (d.R / 2048 * xs[j].toNat))).toNat, d', _, ?_, ?_, h3⟩
        · unfold decA
          rw [if_pos hok]
          simp only [Bool.false_eq_true, if_false]
          rw [hp, h1]
          simp only [pSet, hp, Int.toNat_natCast]
        · rw [h2]
          cases Rc.oneD d (d.R / 2048 * xs[j].toNat) <;> rfl
    · have hok : ¬ (⟨false, i, 0, 0⟩ : Q).ok xs.length := by unfold Q.ok; rw [if_neg (fun f => by cases f)]; exact hi
      refine (dbit_out B' a s u xs i w hS (by omega)).mono fun x w' ⟨h1, h2⟩ => .inl ⟨7, ?_, by decide, h1, h.new h2, hS.new h2, h2.mono (fun _ f => f.elim)⟩
      unfold decA
      rw [if_neg hok]
  dir := fun B a v bs d n w h hO hdig hl hB => by
    by_cases hn : 0 ≤ n ∧ n ≤ 32
    · obtain ⟨m, rfl⟩ : ∃ m : Nat, (m : Int) = n := ⟨n.toNat, by omega⟩
      have hok : (⟨true, 0, (m : Int), 0⟩ : Q).ok ([] : List Int).length := by unfold Q.ok; rw [if_pos rfl]; exact hn
      refine (ddirect_in B a v bs d m w h hO hdig hl (by omega)).mono fun x w' hx => ?_
      rcases hx with ⟨e, h1, h2, h3⟩ | ⟨b, d', h1, h3⟩
      · refine .inl ⟨e, ?_, h2, h3⟩
        unfold decA
        rw [if_pos hok]
        simp only [if_true, Int.toNat_natCast]
        rw [h1]
      · refine .inr ⟨b, d', ?_, h3⟩
        unfold decA
        rw [if_pos hok]
        simp only [if_true, Int.toNat_natCast]
        rw [h1]
    · have hok : ¬ (⟨true, 0, n, 0⟩ : Q).ok ([] : List Int).length := by unfold Q.ok; rw [if_pos rfl]; exact hn
      refine (ddirect_out a n w (by omega)).mono fun x w' ⟨h1, h2⟩ => .inl ⟨7, ?_, by decide, h1, h.new h2, h2.mono (fun _ f => f.elim)⟩
      unfold decA
      exact if_neg hok
  used := fun B a v bs d w h => dused_any B a v bs d w h
  done := fun B a v bs d w h => ddone_any B a v bs d w h
end Go.Proofs.Ytejopgopcocapaa
