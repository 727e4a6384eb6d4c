/- Several texts in one, none of a statement by itself: RdD, RdX, Tf, Tg. -/
import Derived.Test.YtibgjpifmpljkaaBoundD
import Derived.Test.YtibgjpifmpljkaaBoundC
import Derived.BigQuiet
import Derived.Test.YtibgjpifmpljkaaBoundF
/- The contracts of the document's Done and New; of no statement by themselves. -/
namespace Go.Proofs.Ytibgjpifmpljkaa
open Go.RowKit
set_option linter.unusedVariables false

set_option maxHeartbeats 1000000 in
set_option maxRecDepth 100000 in
theorem rddone_any (B r : Nat) (v : Value) (bs : List Nat) (d : Rc.D) (w : World) (h : Rdc w B r v bs d) : Calls Try.prog 35 #[.pointer (some ⟨r, 0, none⟩)] w fun e w' => e = .returned (.bool (decide (d.n = bs.length ∧ d.C = 0))) ∧ Chg (fun _ => False) w w' := by
  obtain ⟨ad, cap, hv, _⟩ := own_any h.own
  obtain ⟨L, hL⟩ : ∃ L, bs.length = L := ⟨_, rfl⟩
  rw [hL] at hv ⊢
  rw [hv] at h
  obtain ⟨k0, k1, _, k3, _⟩ := rcells4 h.blk
  obtain ⟨c, hc⟩ : ∃ c : Int, c = (d.C : Int) := ⟨_, rfl⟩
  obtain ⟨n, hn⟩ : ∃ n : Int, n = (d.n : Int) := ⟨_, rfl⟩
  rw [← hc] at k3
  rw [← hn] at k1
  clear h hv hL
  by_cases hnL : n = (L : Int)
  · by_cases hc0 : c = 0
    · have hd : decide (n = (L : Int)) = true := by simp [hnL]
      have hd2 : decide (c = 0) = true := by simp [hc0]
      have hE : decide (d.n = L ∧ d.C = 0) = true := by simp; omega
      rw [hE]
      clear hE hn hc
      subst hnL hc0
      go_enter Try.func35, Try.ntmps35
      go_wp2_with fail
      go_quiet (fail)
      go_wp2
      go_ret
      exact ⟨rfl, chg_drewN _ _⟩
    · have hd : decide (n = (L : Int)) = true := by simp [hnL]
      have hd2 : decide (c = 0) = false := by simp [hc0]
      have hE : decide (d.n = L ∧ d.C = 0) = false := by simp; omega
      rw [hE]
      have hb0 : (c == 0) = false := by simpa using hc0
      clear hE hn hc
      subst hnL
      go_enter Try.func35, Try.ntmps35
      go_wp2_with fail
      go_quiet (fail)
      go_wp2
      go_ret
      exact ⟨rfl, chg_drewN _ _⟩
  · have hd : decide (n = (L : Int)) = false := by simp [hnL]
    have hE : decide (d.n = L ∧ d.C = 0) = false := by simp; omega
    rw [hE]
    clear hE hn hc
    go_enter Try.func35, Try.ntmps35
    go_wp2_with fail
    go_quiet (fail)
    go_wp2
    go_ret
    exact ⟨rfl, chg_drewN _ _⟩

theorem ref8new_short (a : Option Addr) (n c : Nat) (w : World) (hn : n < 5) : Calls Try.prog 31 #[.slice a n c] w fun e w' => e = .returned (.tuple #[.pointer none, .int .i64 1]) ∧ w = w' := by
  have h1 : (n : Int) < 5 := by omega
  go_enter Try.func31, Try.ntmps31
  go_wp2
  go_ret2
  exact ⟨rfl, rfl⟩

theorem alloc_le (w : World) (o : Obj) : w.heap.size ≤ (w.alloc o).heap.size := (Chg.refl (fun _ => False) w).alloc o |>.size
/-- The code of the first i bytes. -/
def codeTo (b : List Nat) : Nat → Nat
  | 0 => 0
  | i + 1 => 256 * codeTo b i + b.getD (i + 1) 0
theorem codeTo_five (b : List Nat) : codeTo b 4 = Rc.code5 b := by
  simp only [codeTo, Rc.code5, Nat.zero_add, Nat.reduceAdd]
  omega
theorem codeTo_lt {b : List Nat} (h : Rc.Dig b) : ∀ i, codeTo b i < 256 ^ i
  | 0 => by show 0 < 256 ^ 0; decide
  | i + 1 => by
    have h1 := codeTo_lt h i
    have h2 := dig_at h (i + 1)
    rw [codeTo, Nat.pow_succ]
    omega


set_option maxHeartbeats 2000000 in
set_option maxRecDepth 100000 in
theorem ref8new_long (a : Option Addr) (n c : Nat) (bs : List Nat) (w : World) (hx : Row8 w a n c (nums bs)) (hg : Rc.Dig bs) (hn : 5 ≤ n) (hl : n ≤ 140737488355328) : Calls Try.prog 31 #[.slice a n c] w fun e w' =>
    ((bs.getD 0 0 ≠ 0 ∨ Rc.code5 bs = 4294967295) ∧ e = .returned (.tuple #[.pointer none, .int .i64 2]) ∧ w = w')
    ∨ (bs.getD 0 0 = 0 ∧ Rc.code5 bs < 4294967295 ∧ ∃ r v, e = .returned (.tuple #[.pointer (some ⟨r, 0, none⟩), .int .i64 0]) ∧ w.heap.size ≤ r ∧ Rdc w' w.heap.size r v bs ⟨5, 4294967295, Rc.code5 bs⟩ ∧ Chg (fun _ => False) w w') := by
  obtain ⟨x, rfl, hcell⟩ := Bk.row8_cells hx (by omega)
  have hlen : bs.length = n := by have := hx.1; rw [nums_len] at this; exact this
  have hat : ∀ k, (nums bs).getD k 0 = ((bs.getD k 0 : Nat) : Int) := fun k => by simp [nums, List.getD_eq_getElem?_getD]; cases bs[k]? <;> rfl
  have hcl : ∀ k, k < n → w.cell? (x.add k) = some (.int .u8 ((bs.getD k 0 : Nat) : Int)) := fun k hk => by
    have h1 := hcell k hk
    rw [hat] at h1
    exact h1
  have h5 : ¬ ((n : Int) < 5) := by omega
  have hd5 : decide ((n : Int) < 5) = false := by simp; omega
  have HX : Hid (Row8 w (some x) n c (nums bs)) := hx
  clear hcell hx
  go_enter Try.func31, Try.ntmps31
  go_wp2_with fail
  go_loopw [4, 5] (fun cv iv wr => ∃ i : Nat, i ≤ 4 ∧ iv = .int .i64 ((i : Int) + 1) ∧ cv = .int .i64 (codeTo bs i : Int) ∧ wr = w) (fun _ iv _ => 5 - (intOf iv).toNat)
  case atStart => exact ⟨0, by omega, rfl, rfl, rfl⟩
  case round =>
    obtain ⟨i, hi, rfl, rfl, rfl⟩ := hrel
    by_cases h4 : i < 4
    · have hlt := codeTo_lt hg i
      have hp : (256 : Nat) ^ i ≤ 256 ^ 3 := Nat.pow_le_pow_right (by omega) (by omega)
      have hb := dig_at hg (i + 1)
      obtain ⟨y, hy⟩ : ∃ y : Nat, y = codeTo bs i := ⟨_, rfl⟩
      obtain ⟨j, hj⟩ : ∃ j : Nat, j = i + 1 := ⟨_, rfl⟩
      obtain ⟨b, hb'⟩ : ∃ y : Nat, y = bs.getD (i + 1) 0 := ⟨_, rfl⟩
      have hc1 := hcl (i + 1) (by omega)
      rw [← hb', ← hj] at hc1
      rw [← hy, show (i : Int) + 1 = (j : Int) by omega]
      have HY : Hid (codeTo bs (i + 1) = 256 * y + b) := by show codeTo bs (i + 1) = _; rw [codeTo, hy, hb']
      have y1 : (y : Int) < 16777216 := by omega
      have b1 : (b : Int) < 256 := by omega
      have hin : (j : Int) < (n : Int) := by omega
      have hin2 : j < n := by omega
      have h5i : (j : Int) < 5 := by omega
      have HJ : Hid (j = i + 1) := hj
      clear hlt hp hb hy hb' hcl hj h4 hi hlen hat h5
      go_wp2_with fail
      go_roundw
      case rel =>
        have hj : j = i + 1 := HJ.out
        exact ⟨i + 1, by omega, by go_num, by rw [HY.out]; go_num, trivial⟩
      case measure =>
        have hj : j = i + 1 := HJ.out
        simp [intOf]
        omega
    · obtain rfl : i = 4 := by omega
      rw [codeTo_five]
      have hlt := codeTo_lt hg 4
      rw [codeTo_five] at hlt
      have hc0 := hcl 0 (by omega)
      have hb := dig_at hg 0
      obtain ⟨b, hb'⟩ : ∃ b : Nat, b = bs.getD 0 0 := ⟨_, rfl⟩
      obtain ⟨q, hq⟩ : ∃ q : Nat, q = Rc.code5 bs := ⟨_, rfl⟩
      rw [← hb'] at hc0 hb
      rw [← hq] at hlt ⊢
      have HB : Hid (bs.getD 0 0 = b) := hb'.symm
      have HQ : Hid (Rc.code5 bs = q) := hq.symm
      have HL : Hid (bs.length = n) := hlen
      clear hb' hq
      replace hc0 : wr.cell? x = some (.int .u8 (b : Int)) := hc0
      have b1 : (b : Int) < 256 := by omega
      have q1 : (q : Int) < 4294967296 := by omega
      have h0n : (0 : Int) < (n : Int) := by omega
      have h0n2 : 0 < n := by omega
      clear hcl hlen hat h5 hi h4 hlt hb
      by_cases hbz : b = 0
      · by_cases hqm : q = 4294967295
        · subst hbz hqm
          go_wp2
          go_ret2
          exact .inl ⟨.inr HQ.out, rfl, rfl⟩
        · have hdq : decide ((q : Int) = 4294967295) = false := by simp; omega
          have hbq : ((q : Int) == 4294967295) = false := beq_eq_false_iff_ne.2 (by omega)
          have HQ1 : Hid (q < 4294967295) := by show q < _; omega
          clear hqm q1
          subst hbz
          obtain ⟨i0, hi, hz0, hz1, hz2⟩ := info_parts infoU8
          have hone := ins_one .u8 (nums bs)
          obtain ⟨W1, hW1⟩ : ∃ W1, W1 = wr.alloc (.cells #[.slice none 0 0, .int .i64 5, .int .i64 4294967295, .int .i64 (q : Int)] 107) := ⟨_, rfl⟩
          have c1 : Chg (fun _ => False) wr W1 := by rw [hW1]; exact chg_one wr _
          have HSZ : Hid (wr.heap.size ≤ W1.heap.size) := by rw [hW1]; exact alloc_le wr _
          have hb1 : W1.heap[wr.heap.size]? = some (.cells #[.slice none 0 0, .int .i64 5, .int .i64 4294967295, .int .i64 (q : Int)] 107 (0, 0)) := by rw [hW1]; exact heap_alloc_last wr _
          have hF : From W1 (some x) n c 1 (ins .u8 (nums bs)) := (Bk.row8_chg HX.out c1).src
          have HC1 : Hid (Chg (fun _ => False) wr W1) := c1
          have HB1 : Hid (W1.heap[wr.heap.size]? = some (.cells #[.slice none 0 0, .int .i64 5, .int .i64 4294967295, .int .i64 (q : Int)] 107 (0, 0))) := hb1
          have hlen : (ins .u8 (nums bs)).length = n := by have := HL.out; simp [ins, nums]; omega
          subst hW1
          clear c1 hb1
          go_wp2_with (at_builtin; refine wpList_append_moved rfl _ _ 39 rfl wr.heap.size 5 i0 (.int .u8 0) 1 1 Try.underlying39 hi hz0 hz1 hz2 rfl (by decide) _ 0 [] rfl (some x) n c rfl (ins .u8 (nums bs)) (World.ownsRow_nil _ _ _ _) hF hone (by unfold maxLen; omega) (by omega) HSZ.out ?_)
          intro v2 w2 ho hg2 hm
          have c2 := (Chg.refl (fun _ => False) _).grown hg2 (fun k e => by cases e)
          have hb2 := blk_keep HB1.out c2 (fun f => f)
          have ho2 : w2.ownsRow wr.heap.size 5 1 v2 bs.length (ins .u8 (nums bs)) := by rw [HL.out]; simpa using ho
          obtain ⟨ad2, cap2, hv2, _⟩ := own_any ho2
          have hne : v2.ownBlock ≠ some wr.heap.size := fun e => by
            obtain ⟨cur, hcur⟩ := owns_blk ho2 e
            exact ty_ne hb2 hcur (by decide)
          have b3 := blk_setk (l := [.slice none 0 0, .int .i64 5, .int .i64 4294967295, .int .i64 (q : Int)]) hb2 0 v2
          have c3 : Chg (fun z => z = wr.heap.size) w2 (w2.setCell ⟨wr.heap.size, 0, none⟩ v2) := (Chg.refl (fun z => z = wr.heap.size) w2).setCell (p := ⟨wr.heap.size, 0, none⟩) (.inl rfl) _
          have H3 : Hid (Rdc (w2.setCell ⟨wr.heap.size, 0, none⟩ v2) wr.heap.size wr.heap.size v2 bs ⟨5, 4294967295, Rc.code5 bs⟩) := by
            show Rdc _ _ _ _ _ _
            rw [HQ.out]
            exact ⟨Nat.le_refl _, b3, ownsRow_keep ho2 c3 (fun g e e2 => hne (by rw [← e2]; exact e)), hg⟩
          have HC3 : Hid (Chg (fun _ => False) wr (w2.setCell ⟨wr.heap.size, 0, none⟩ v2)) := (chg_then HC1.out c2).trans c3 (fun z e => .inr (Nat.le_of_eq e.symm))
          obtain ⟨k0, _, _, _, kf⟩ := rcells4 hb2
          have kf0 := kf 0
          clear ho hg2 hm hF c2 ho2 hne b3 c3 kf hlen hg hb2
          subst hv2
          go_wp2
          go_ret2
          exact .inr ⟨HB.out, by rw [HQ.out]; exact HQ1.out, _, _, rfl, Nat.le_refl _, H3.out, HC3.out⟩
      · have hdb : decide ((b : Int) = 0) = false := by simp; omega
        go_wp2
        go_ret2
        exact .inl ⟨.inl (by rw [HB.out]; exact hbz), rfl, rfl⟩
end Go.Proofs.Ytibgjpifmpljkaa

/- The document's decoder by what its questions answer; of no statement by itself. -/
namespace Go.Proofs.Ytibgjpifmpljkaa
open Go.RowKit
set_option linter.unusedVariables false

/-- What a question to the document's decoder may change. -/
def Fr (r : Nat) (t : Value) (z : Nat) : Prop := z = r ∨ t.ownBlock = some z
theorem rdbit_A (B B' r s : Nat) (m : Int) (v t : Value) (xs : List Int) (i : Int) (bs : List Nat) (d : Rc.D) (w : World) (h : Rdc w B r v bs d) (hO : OkD bs d) (hS : Rt w B' s m t xs) (hI : In31 xs) (hl : bs.length ≤ 140737488355328) (hB : B ≤ w.heap.size) :
    Calls Try.prog 62 #[.pointer (some ⟨r, 0, none⟩), .pointer (some ⟨s, 0, none⟩), .int .i64 i] w fun x w' =>
      (∃ e : Nat, decA bs ⟨false, i, 0, 0⟩ d xs = .error e ∧ x = .returned (.tuple #[.int .i64 0, .int .i64 (e : Int)]) ∧ Rdc w' B r v bs d ∧ Rt w' B' s m t xs ∧ Chg (Fr r t) w w')
      ∨ (∃ b d' xs', decA bs ⟨false, i, 0, 0⟩ d xs = .ok (b, d', xs') ∧ x = .returned (.tuple #[.int .i64 (b : Int), .int .i64 0]) ∧ Rdc w' B r v bs d' ∧ Rt w' B' s m t xs' ∧ Chg (Fr r t) w w') := by
  by_cases hi : 0 ≤ i ∧ i < (xs.length : Int)
  · obtain ⟨j, rfl⟩ : ∃ j : Nat, (j : Int) = i := ⟨i.toNat, by omega⟩
    have hj : j < xs.length := by omega
    have hok : (⟨false, (j : Int), 0, 0⟩ : Q).ok xs.length := by unfold Q.ok; rw [if_neg (fun f => by cases f)]; exact hi
    have hp : pAt xs (j : Int) = xs[j] := by unfold pAt; simp [hj]
    refine (rdbit_in B B' r s m v t xs j bs d w h hO hS hI hj hl hB).mono fun x w' hx => ?_
    rcases hx with ⟨d', h1, h2, h3, h4, h5⟩ | ⟨h1, h2, h3⟩
    · refine .inr ⟨(bt (Rc.oneD d (d.R / 2048 * xs[j].toNat))).toNat, d', _, ?_, ?_, h3, h4, h5⟩
      · unfold decA
        rw [if_pos hok]
        simp only [Bool.false_eq_true, if_false]
        rw [hp, h1]
        simp only [pSet, hp, Int.toNat_natCast]
      · rw [h2]
        cases Rc.oneD d (d.R / 2048 * xs[j].toNat) <;> rfl
    · refine .inl ⟨1, ?_, h2, h.new h3, hS.new h3, h3.mono (fun _ f => f.elim)⟩
      unfold decA
      rw [if_pos hok]
      simp only [Bool.false_eq_true, if_false]
      rw [hp, h1]
  · have hok : ¬ (⟨false, i, 0, 0⟩ : Q).ok xs.length := by unfold Q.ok; rw [if_neg (fun f => by cases f)]; exact hi
    refine (rdbit_out B' s m t _ xs i w hS (by omega)).mono fun x w' ⟨h1, h2⟩ => .inl ⟨7, ?_, h1, by rw [← h2]; exact h, by rw [← h2]; exact hS, by rw [← h2]; exact Chg.refl _ _⟩
    unfold decA
    rw [if_neg hok]
theorem rddir_A (B r : Nat) (v : Value) (n : Int) (bs : List Nat) (d : Rc.D) (w : World) (h : Rdc w B r v bs d) (hO : OkD bs d) (hl : bs.length ≤ 140737488355328) (hB : B ≤ w.heap.size) :
    Calls Try.prog 63 #[.pointer (some ⟨r, 0, none⟩), .int .i64 n] w fun x w' =>
      (∃ e : Nat, decA bs ⟨true, 0, n, 0⟩ d [] = .error e ∧ x = .returned (.tuple #[.int .u32 0, .int .i64 (e : Int)]) ∧ Rdc w' B r v bs d ∧ Chg (fun z => z = r) w w')
      ∨ (∃ b d', decA bs ⟨true, 0, n, 0⟩ d [] = .ok (b, d', []) ∧ x = .returned (.tuple #[.int .u32 (b : Int), .int .i64 0]) ∧ Rdc w' B r v bs d' ∧ Chg (fun z => z = r) w w') := by
  by_cases hn : 0 ≤ n ∧ n ≤ 32
  · obtain ⟨m, rfl⟩ : ∃ m : Nat, (m : Int) = n := ⟨n.toNat, by omega⟩
    have hok : (⟨true, 0, (m : Int), 0⟩ : Q).ok ([] : List Int).length := by unfold Q.ok; rw [if_pos rfl]; exact hn
    refine (rddirect_in B r v bs d m w h hO (by omega) hl hB).mono fun x w' hx => ?_
    rcases hx with ⟨e, h1, h2, h3⟩ | ⟨b, d', h1, _, _, h2, h3, h4⟩
    · refine .inl ⟨e, ?_, h2, h.new h3, h3.mono (fun _ f => f.elim)⟩
      unfold decA
      rw [if_pos hok]
      simp only [if_true, Int.toNat_natCast]
      rw [h1]
    · refine .inr ⟨b, d', ?_, h2, h3, h4⟩
      unfold decA
      rw [if_pos hok]
      simp only [if_true, Int.toNat_natCast]
      rw [h1]
  · have hok : ¬ (⟨true, 0, n, 0⟩ : Q).ok ([] : List Int).length := by unfold Q.ok; rw [if_pos rfl]; exact hn
    refine (rddirect_out _ n w (by omega)).mono fun x w' ⟨h1, h2⟩ => .inl ⟨7, ?_, h1, by rw [← h2]; exact h, by rw [← h2]; exact Chg.refl _ _⟩
    unfold decA
    exact if_neg hok

theorem decA_bit_err {bs : List Nat} {i : Int} {d : Rc.D} {xs : List Int} {e : Nat} (h : decA bs ⟨false, i, 0, 0⟩ d xs = .error e) : 0 < e := by
  unfold decA at h
  split at h
  · simp only [Bool.false_eq_true, if_false] at h
    split at h
    · cases h; decide
    · cases h
  · cases h; decide
end Go.Proofs.Ytibgjpifmpljkaa

/- The contract of the document's Get; of no statement by itself. -/
namespace Go.Proofs.Ytibgjpifmpljkaa
open Go.RowKit
set_option linter.unusedVariables false

theorem getW_err {bs : List Nat} {p k m : Nat} {d : Rc.D} {xs : List Int} {e : Nat} (h : decA bs ⟨false, ((p + m : Nat) : Int), 0, 0⟩ d xs = .error e) : getW bs p (k + 1) m d xs = ([], d, xs, e) := by rw [getW, h]
theorem getW_ok {bs : List Nat} {p k m b : Nat} {d d' : Rc.D} {xs xs' : List Int} (h : decA bs ⟨false, ((p + m : Nat) : Int), 0, 0⟩ d xs = .ok (b, d', xs')) : getW bs p (k + 1) m d xs = (b :: (getW bs p k (2 * m + b) d' xs').1, (getW bs p k (2 * m + b) d' xs').2) := by rw [getW, h]
/-- The document's decoder and its row. -/
structure RdW (w0 wr : World) (B B' r s : Nat) (m : Int) (y us : Value) (bs : List Nat) (d : Rc.D) (xs : List Int) : Prop where
  rdc : Rdc wr B r y bs d
  rt : Rt wr B' s m us xs
  ok : OkD bs d
  inn : In31 xs
  chg : Chg (Fr r us) w0 wr
theorem RdW.new {w0 wr w' : World} {B B' r s : Nat} {m : Int} {y us : Value} {bs : List Nat} {d : Rc.D} {xs : List Int} (h : RdW w0 wr B B' r s m y us bs d xs) (hc : Chg (fun _ => False) wr w') : RdW w0 w' B B' r s m y us bs d xs := ⟨h.rdc.new hc, h.rt.new hc, h.ok, h.inn, h.chg.trans hc (fun _ f => f.elim)⟩
def numO (back : Bool) (l : List Nat) : Nat := if back then numB l else numF 0 l
theorem numF_le : ∀ (l : List Nat) (a : Nat), Bits01 l → numF a l < (a + 1) * 2 ^ l.length
  | [], a, _ => by simp [numF]
  | b :: l, a, h => by
    have hb : b ≤ 1 := h b (List.mem_cons_self ..)
    have h2 := numF_le l (2 * a + b) (fun x hx => h x (List.mem_cons_of_mem _ hx))
    simp only [numF, List.length_cons, Nat.pow_succ]
    have e2 : (a + 1) * (2 ^ l.length * 2) = (2 * a + 2) * 2 ^ l.length := by rw [Nat.mul_comm (2 ^ l.length) 2, ← Nat.mul_assoc, Nat.mul_comm (a + 1) 2]; congr 1
    rw [e2]
    have a2 : (2 * a + b + 1) * 2 ^ l.length ≤ (2 * a + 2) * 2 ^ l.length := Nat.mul_le_mul_right _ (by omega)
    omega
theorem numB_le : ∀ (l : List Nat), Bits01 l → numB l < 2 ^ l.length
  | [], _ => by simp [numB]
  | b :: l, h => by
    have hb : b ≤ 1 := h b (List.mem_cons_self ..)
    have h2 := numB_le l (fun x hx => h x (List.mem_cons_of_mem _ hx))
    simp only [numB, List.length_cons, Nat.pow_succ]
    omega
theorem numO_le (back : Bool) {l : List Nat} (h : Bits01 l) (hl : l.length ≤ 16) : numO back l ≤ 65535 := by
  have h1 : 2 ^ l.length ≤ 65536 := pow16 hl
  unfold numO
  split
  · have := numB_le l h; omega
  · have := numF_le l 0 h; omega

set_option maxHeartbeats 8000000 in
set_option maxRecDepth 100000 in
theorem refget_any (B B' r s : Nat) (m : Int) (y us : Value) (bs : List Nat) (d0 : Rc.D) (xs0 : List Int) (p n : Int) (back : Bool) (len : Nat) (w0 : World) (h : Rdc w0 B r y bs d0) (hO : OkD bs d0) (hdig : Rc.Dig bs) (hbl : bs.length ≤ 140737488355328) (hB : B ≤ w0.heap.size) (hS : Rt w0 B' s m us xs0) (hI : In31 xs0) (hl : xs0.length = len) (hlen : len ≤ 1048576) (hp : I64 p) (hn : I64 n) :
    Calls Try.prog 61 #[.pointer (some ⟨r, 0, none⟩), .pointer (some ⟨s, 0, none⟩), .int .i64 p, .int .i64 n, .bool back] w0 fun z w' =>
      (¬ Stands len p n ∧ z = .returned (.tuple #[.int .i64 0, .int .i64 7]) ∧ Chg (fun _ => False) w0 w')
      ∨ (Stands len p n ∧ ((∃ l d xs e, getW bs p.toNat n.toNat 1 d0 xs0 = (l, d, xs, e) ∧ 0 < e ∧ z = .returned (.tuple #[.int .i64 0, .int .i64 (e : Int)]) ∧ RdW w0 w' B B' r s m y us bs d xs)
        ∨ (∃ R : List Nat × Rc.D × List Int, getW bs p.toNat n.toNat 1 d0 xs0 = (R.1, R.2.1, R.2.2, 0) ∧ z = .returned (.tuple #[.int .i64 ((numO back R.1 : Nat) : Int), .int .i64 0]) ∧ RdW w0 w' B B' r s m y us bs R.2.1 R.2.2))) := by
  have HTH : Hid _ := there_any B' s m p n us xs0 len w0 hS hl hlen hp hn
  by_cases hf : Stands len p n
  rotate_left
  · have e1 : decide (Stands len p n) = false := decide_eq_false hf
    rw [e1] at HTH
    have HF : Hid (¬ Stands len p n) := hf
    clear e1 hf hS hI h hO
    go_enter Try.func61, Try.ntmps61
    go_wp2_with fail
    refine Calls.mono HTH.out ?_
    rintro z w1 ⟨rfl, c1⟩
    go_wp2
    go_ret2
    exact .inl ⟨HF.out, rfl, c1⟩
  have e1 : decide (Stands len p n) = true := decide_eq_true hf
  rw [e1] at HTH
  have HF : Hid (Stands len p n) := hf
  obtain ⟨P, hP⟩ : ∃ P : Nat, (P : Int) = p := ⟨p.toNat, by have := hf.2.2.1; omega⟩
  obtain ⟨N, hN⟩ : ∃ N : Nat, (N : Int) = n := ⟨n.toNat, by have := hf.1; omega⟩
  subst hP hN
  have f2 : N ≤ 16 := by have := hf.2.1; omega
  have f1 : P + 2 ^ N ≤ len := by
    have h4 := hf.2.2.2
    have e : ((2 ^ N : Nat) : Int) = (2 : Int) ^ N := by simp
    simp only [Int.toNat_natCast] at h4
    omega
  have hP1 : P ≤ 1048576 := by have := Nat.le_add_right P (2 ^ N); omega
  simp only [Int.toNat_natCast]
  have HRD : Hid (RdW w0 w0 B B' r s m y us bs d0 xs0) := ⟨h, hS, hO, hI, Chg.refl _ _⟩
  have HUS : Hid (∀ g, us.ownBlock = some g → g < w0.heap.size) := fun g e => (hS.own.lt g e).2
  have HXL : Hid (xs0.length = len) := hl
  have HN16 : Hid (N ≤ 16) := f2
  have HP2 : Hid (P + 2 ^ N ≤ len) := f1
  obtain ⟨jI, hjI, hjz, hj1, hj8⟩ := info_parts infoInt
  clear e1 hf f1 h hS hO hI hl
  go_enter Try.func61, Try.ntmps61
  go_wp2_with fail
  refine Calls.mono HTH.out ?_
  rintro z w1 ⟨rfl, c1⟩
  have HRD1 : Hid (RdW w0 w1 B B' r s m y us bs d0 xs0) := HRD.out.new c1
  clear c1 HTH HRD
  go_wp2_with fail
  go_loopw [13, 14] (fun lv iv wr => ∃ (k : Nat) (l : List Nat) (d : Rc.D) (xs : List Int), k ≤ N ∧ iv = .int .i64 (k : Int) ∧ Hid (l.length = k) ∧ Hid (Bits01 l) ∧ Hid (xs.length = len) ∧ Hid (getW bs P N 1 d0 xs0 = (l ++ (getW bs P (N - k) (wayM 1 l) d xs).1, (getW bs P (N - k) (wayM 1 l) d xs).2)) ∧ Hid (wr.ownsRow w0.heap.size 3 1 lv k (ins .i64 (nums l))) ∧ Hid (RdW w0 wr B B' r s m y us bs d xs)) (fun _ iv _ => N - (intOf iv).toNat)
  case atStart => exact ⟨0, [], d0, xs0, Nat.zero_le _, rfl, rfl, fun x hx => (List.not_mem_nil hx).elim, HXL.out, by simp [Hid, wayM], World.ownsRow_nil _ _ _ _, HRD1.out⟩
  case round =>
    clear HRD1
    obtain ⟨k, l, d, xs, hk, rfl, HLN, HB01, HXS, HGE, HRL, HD⟩ := hrel
    obtain ⟨la, lc, hlv⟩ := form1i HRL.out
    subst hlv
    by_cases hlt : k < N
    · have cE := chg_one wr (.cells #[] 3)
      have hoE := own_empty wr 3
      have hsrc1 := own_from (ownsRow_keep HRL.out cE (fun _ _ f => f))
      have hone := ins_one .i64 (nums l)
      have hsz1 : wr.heap.size ≤ (wr.alloc (.cells #[] 3)).heap.size := cE.size
      go_wp2_with (at_builtin; refine wpList_append_moved rfl _ _ 43 rfl wr.heap.size 3 jI (.int .i64 0) 1 8 Try.underlying43 hjI hjz hj1 hj8 rfl (by decide) _ 0 [] rfl la k lc rfl (ins .i64 (nums l)) hoE hsrc1 hone (by unfold maxLen; omega) (by omega) hsz1 ?_)
      intro v2 w2 ho2 hg2 _
      have c2 : Chg (fun _ => False) wr w2 := cE.grown hg2 (fun k e => .inr (by cases e; exact Nat.le_refl _))
      have ho2' : w2.ownsRow wr.heap.size 3 1 v2 k (ins .i64 (nums l)) := by simpa using ho2
      obtain ⟨oa, oc, hv2⟩ := form1i ho2'
      subst hv2
      have cB := chg_one w2 (.cells #[.int .i64 0] 3)
      have hsrc2 := from_one8 w2 (.int .i64 0) 3
      have ho3 := ownsRow_keep ho2' cB (fun _ _ f => f)
      have hsz2 : wr.heap.size ≤ (w2.alloc (.cells #[.int .i64 0] 3)).heap.size := Nat.le_trans c2.size cB.size
      have HC2 : Hid (Chg (fun _ => False) wr (w2.alloc (.cells #[.int .i64 0] 3))) := chg_then c2 cB
      clear ho2 hg2 hoE hsrc1 hsz1 cE c2 cB ho2'
      go_wp2_with (at_builtin; refine wpList_append_moved rfl _ _ 43 rfl wr.heap.size 3 jI (.int .i64 0) 1 8 Try.underlying43 hjI hjz hj1 hj8 rfl (by decide) _ k (ins .i64 (nums l)) rfl (some ⟨w2.heap.size, 0, none⟩) 1 1 rfl [.int .i64 0] ho3 hsrc2 (fun u hu => by simp at hu; subst hu; rfl) (by unfold maxLen; omega) (by omega) hsz2 ?_)
      intro v3 w3 ho4 hg4 _
      have HC3 : Hid (Chg (fun _ => False) wr w3) := HC2.out.grown hg4 (fun k e => .inr (ho3.lt k e).1)
      have HO4 : Hid (w3.ownsRow wr.heap.size 3 1 v3 (k + 1) (ins .i64 (nums (l ++ [0])))) := by
        show World.ownsRow _ _ _ _ _ _ _
        simpa [ins, nums] using ho4
      clear ho4 hg4 ho3 hsrc2 hsz2 HC2
      go_wp2_with fail
      refine (way_any P wr.heap.size v3 (l ++ [0]) hP1 (fun x hx => by rcases List.mem_append.1 hx with hx | hx; exact HB01.out x hx; simp at hx; omega) (k + 1) (by rw [List.length_append, HLN.out]; rfl) (by have := HN16.out; omega) _ HO4.out).mono ?_
      rintro z w4 ⟨sv, rfl, ho5, c5⟩
      have HC4 : Hid (Chg (fun _ => False) wr w4) := chg_then HC3.out c5
      obtain ⟨sa, sc, hsv⟩ := form2 ho5
      subst hsv
      have hst := step_own (k := k) ho5 (wayP_at P (l ++ [0]) 1 k 0 (by rw [List.getElem?_append_right (by rw [HLN.out]; exact Nat.le_refl _), HLN.out, Nat.sub_self]; rfl))
      rw [List.take_append_of_le_length (by rw [HLN.out]; exact Nat.le_refl _), List.take_of_length_le (by rw [HLN.out]; exact Nat.le_refl _)] at hst
      obtain ⟨g, eg, c0, _⟩ := hst
      simp only at c0
      obtain ⟨pm, hpm⟩ : ∃ pm : Nat, pm = P + wayM 1 l := ⟨_, rfl⟩
      rw [← hpm] at c0
      subst eg
      have HDW : Hid (RdW w0 w4 B B' r s m y us bs d xs) := HD.out.new HC4.out
      have HRL4 : Hid (w4.ownsRow w0.heap.size 3 1 (.slice la k lc) k (ins .i64 (nums l))) := ownsRow_keep HRL.out HC4.out (fun _ _ f => f)
      have HPM : Hid (((P + wayM 1 l : Nat) : Int) = (pm : Int)) := by show _ = _; rw [hpm]
      have hNk : N - k = (N - (k + 1)) + 1 := by omega
      have HNK : Hid (N - k = (N - (k + 1)) + 1) := hNk
      clear ho5 c5 HO4 HC3 HD HRL hpm hNk
      go_wp2_with fail
      refine (rdbit_A B B' r s m y us xs (pm : Int) bs d _ HDW.out.rdc HDW.out.ok HDW.out.rt HDW.out.inn hbl (Nat.le_trans hB HDW.out.chg.size)).mono ?_
      rintro z w5 (⟨e, he, rfl, hR5, hT5, c5⟩ | ⟨b, d', xs', he, rfl, hR5, hT5, c5⟩)
      · have HEP := decA_bit_err he
        have HER : Hid (getW bs P N 1 d0 xs0 = (l, d, xs, e)) := by
          show _ = _
          rw [← HPM.out] at he
          rw [HGE.out, HNK.out, getW_err he]
          simp
        have HEPP : Hid (0 < e) := HEP
        have HD5 : Hid (RdW w0 w5 B B' r s m y us bs d xs) := ⟨hR5, hT5, HDW.out.ok, HDW.out.inn, HDW.out.chg.trans c5 (fun z f => .inl f)⟩
        obtain ⟨ei, hei⟩ : ∃ ei : Int, ei = (e : Int) := ⟨_, rfl⟩
        have HEI : Hid (ei = (e : Int)) := hei
        rw [← hei]
        have hne : ei ≠ 0 := by omega
        have hbe : (ei == 0) = false := by simpa using hne
        have hde : decide (ei = 0) = false := by simpa using hne
        clear he HEP hR5 hT5 c5 hei c0
        go_wp2
        go_ret2
        refine .inr ⟨HF.out, .inl ⟨l, d, xs, e, HER.out, HEPP.out, ?_, HD5.out⟩⟩
        rw [← HEI.out]
        rfl
      · have hdA := decA_ok hdig HDW.out.ok HDW.out.inn he
        have hb1 : b ≤ 1 := by have h9 := hdA.2.1; simp [Q.bits] at h9; omega
        have HD5 : Hid (RdW w0 w5 B B' r s m y us bs d' xs') := ⟨hR5, hT5, hdA.2.2.1, hdA.2.2.2.1, HDW.out.chg.trans c5 (fun z f => .inl f)⟩
        have HXS5 : Hid (xs'.length = len) := by show _ = _; rw [hdA.2.2.2.2]; exact HXS.out
        have HGE5 : Hid (getW bs P N 1 d0 xs0 = ((l ++ [b]) ++ (getW bs P (N - (k + 1)) (wayM 1 (l ++ [b])) d' xs').1, (getW bs P (N - (k + 1)) (wayM 1 (l ++ [b])) d' xs').2)) := by
          show _ = _
          rw [← HPM.out] at he
          rw [HGE.out, HNK.out, getW_ok he, wayM_append]
          simp
        have HB015 : Hid (Bits01 (l ++ [b])) := fun x hx => by rcases List.mem_append.1 hx with hx | hx; exact HB01.out x hx; simp at hx; omega
        have HRL5 : Hid (w5.ownsRow w0.heap.size 3 1 (.slice la k lc) k (ins .i64 (nums l))) := ownsRow_keep HRL4.out c5 (fun g2 e2 f => by
          obtain ⟨cu, hcu⟩ := owns_blk HRL4.out e2
          rcases f with f | f
          · rw [f] at hcu
            exact ty_ne HDW.out.rdc.blk hcu (by decide)
          · have := (HRL4.out.lt g2 e2).1
            have := HUS.out g2 f
            omega)
        have cB := chg_one w5 (.cells #[.int .i64 (b : Int)] 3)
        have hown := ownsRow_keep HRL5.out cB (fun _ _ f => f)
        have hsz : w0.heap.size ≤ (w5.alloc (.cells #[.int .i64 (b : Int)] 3)).heap.size := Nat.le_trans HD5.out.chg.size cB.size
        have hsrc := from_one8 w5 (.int .i64 (b : Int)) 3
        have HCB : Hid (RdW w0 (w5.alloc (.cells #[.int .i64 (b : Int)] 3)) B B' r s m y us bs d' xs') := HD5.out.new cB
        clear he hdA hR5 hT5 c5 cB c0 HRL5
        go_wp2_with (at_builtin; refine wpList_append_moved rfl _ _ 43 rfl w0.heap.size 3 jI (.int .i64 0) 1 8 Try.underlying43 hjI hjz hj1 hj8 rfl (by decide) _ k (ins .i64 (nums l)) rfl (some ⟨w5.heap.size, 0, none⟩) 1 1 rfl [.int .i64 (b : Int)] hown hsrc (fun u hu => by simp at hu; subst hu; rfl) (by unfold maxLen; omega) (by omega) hsz ?_)
        intro v9 w9 ho9 hg9 _
        have HR9 : Hid (w9.ownsRow w0.heap.size 3 1 v9 (k + 1) (ins .i64 (nums (l ++ [b])))) := by
          show World.ownsRow _ _ _ _ _ _ _
          simpa [ins, nums] using ho9
        have HD9 : Hid (RdW w0 w9 B B' r s m y us bs d' xs') := by
          have cg : Chg (fun z => (Value.slice la k lc).ownBlock = some z) (w5.alloc (.cells #[.int .i64 (b : Int)] 3)) w9 := (Chg.refl _ _).grown hg9 (fun z e => .inl e)
          have hge : ∀ z, (Value.slice la k lc).ownBlock = some z → w0.heap.size ≤ z := fun z e => (hown.lt z e).1
          refine ⟨HCB.out.rdc.keep cg (fun f => ?_) (fun g2 e2 f => ?_), HCB.out.rt.keep cg (fun f => ?_) (fun g2 e2 f => ?_), HCB.out.ok, HCB.out.inn, HCB.out.chg.trans cg (fun z e => .inr (hge z e))⟩
          · obtain ⟨cu, hcu⟩ := owns_blk hown f
            exact ty_ne HCB.out.rdc.blk hcu (by decide)
          · obtain ⟨cu, hcu⟩ := owns_blk hown f
            obtain ⟨c8, h8⟩ := owns_blk HCB.out.rdc.own e2
            exact ty_ne h8 hcu (by decide)
          · obtain ⟨cu, hcu⟩ := owns_blk hown f
            exact ty_ne HCB.out.rt.blk hcu (by decide)
          · have := hge g2 f
            have := HUS.out g2 e2
            omega
        have HLN9 : Hid ((l ++ [b]).length = k + 1) := by show _ = _; rw [List.length_append, HLN.out]; rfl
        obtain ⟨la9, lc9, hv9⟩ := form1i HR9.out
        subst hv9
        clear ho9 hg9 hown hsrc HCB
        go_wp2_with fail
        go_roundw
        case rel => exact ⟨k + 1, l ++ [b], d', xs', by omega, by go_num, HLN9.out, HB015.out, HXS5.out, HGE5.out, HR9.out, HD9.out⟩
        case measure => simp [intOf]; omega
    · have hkn : N = k := by omega
      subst hkn
      have hd : decide ((N : Int) < (N : Int)) = false := by simp
      have HGF : Hid (getW bs P N 1 d0 xs0 = (l, d, xs, 0)) := by
        show _ = _
        rw [HGE.out, Nat.sub_self]
        simp [getW]
      have HRN : Hid (wr.ownsRow w0.heap.size 3 1 (.slice la N lc) N (ins .i64 (nums l))) := HRL.out
      clear HRL HGE
      go_wp2_with fail
      cases back with
      | true =>
        go_loopw [18, 19] (fun av iv wr => ∃ j a : Nat, j ≤ N ∧ av = .int .i64 (a : Int) ∧ iv = .int .i64 (j : Int) ∧ Hid (a = numB (l.take j)) ∧ Hid (wr.ownsRow w0.heap.size 3 1 (.slice la N lc) N (ins .i64 (nums l))) ∧ Hid (RdW w0 wr B B' r s m y us bs d xs)) (fun _ iv _ => N - (intOf iv).toNat)
        case atStart => exact ⟨0, 0, Nat.zero_le _, rfl, rfl, rfl, HRN.out, HD.out⟩
        case round =>
          clear HRN HD
          obtain ⟨j, a, hj2, rfl, rfl, HAC, HRL, HD2⟩ := hrel
          have ha : a ≤ 65535 := by
            have h9 := numO_le true (l := l.take j) (fun x hx => HB01.out x (List.mem_of_mem_take hx)) (by rw [List.length_take]; have := HN16.out; omega)
            have := HAC.out
            unfold numO at h9
            simp only [if_true] at h9
            omega
          by_cases hjl : j < N
          · obtain ⟨b, hb⟩ : ∃ b, l[j]? = some b := ⟨_, List.getElem?_eq_getElem (by rw [HLN.out]; exact hjl)⟩
            have HB : Hid (l[j]? = some b) := hb
            have hb1 : b ≤ 1 := HB01.out b (List.mem_of_getElem? hb)
            obtain ⟨g, cap, eg, _, _, _, _, _, hcl⟩ := own_some HRL.out (by omega)
            cases eg
            have hcell : wr.cell? ⟨g, j, none⟩ = some (.int .i64 (b : Int)) := hcl j _ (by simp [ins, nums, hb])
            clear hcl hb
            obtain ⟨Y, hY⟩ : ∃ Y : Nat, Y = 2 ^ j := ⟨_, rfl⟩
            have HTW : Hid (∀ w, Calls Try.prog 91 #[.int .i64 (j : Int)] w fun e w' => e = .returned (.int .i64 (Y : Int)) ∧ w = w') := two_any j Y (by have := HN16.out; omega) hY
            have hY2 : Y ≤ 65536 := by rw [hY]; exact pow16 (by have := HN16.out; omega)
            have HNX : Hid (a + b * Y = numB (l.take (j + 1))) := by
              show _ = _
              rw [List.take_add_one, HB.out]
              simp only [Option.toList_some]
              rw [numB_append, List.length_take, HLN.out, Nat.min_eq_left (by omega), ← hY, HAC.out]
            have hby : (b : Int) * (Y : Int) = ((b * Y : Nat) : Int) := by simp
            have hbyle : b * Y ≤ 65536 := by
              have h9 : b * Y ≤ 1 * Y := Nat.mul_le_mul_right _ hb1
              omega
            have hm1 : IntKind.i64.wrap ((b : Int) * (Y : Int)) = (b : Int) * (Y : Int) := by rw [hby]; exact wr64 (by omega) (by omega)
            have hm2 : IntKind.i64.wrap ((a : Int) + (b : Int) * (Y : Int)) = (a : Int) + (b : Int) * (Y : Int) := by rw [hby]; exact wr64 (by omega) (by omega)
            have HSUM : Hid ((a : Int) + (b : Int) * (Y : Int) = ((a + b * Y : Nat) : Int)) := by show _ = _; rw [hby]; omega
            clear hY hby hbyle HB
            go_wp2_with fail
            refine wp_region_phaseQ (mk := fun u => #[_, _, _, _, _, _, _, _, _, _, _, _, _, _, _, _, _, _, _, _, _, _, _, _, _, _, _, _, _, _, _, _, _, _, _, _, _, _, _, _, _, _, _, _, _, _, _, _, _, _, _, _, _, _, _, _, _, _, _, _, _, _, u 62, u 63, u 64, u 65, u 66, u 67, u 68, u 69, u 70, _, _, _, _, _, _, _, _]) (G := lookG [(62, .int .i64 (a : Int)), (63, .slice (some ⟨g, 0, none⟩) N lc), (64, .int .i64 (j : Int)), (65, .pointer (some ⟨g, j, none⟩)), (66, .int .i64 (b : Int)), (67, .int .i64 (j : Int)), (68, .int .i64 (Y : Int)), (69, .int .i64 ((b : Int) * (Y : Int))), (70, .int .i64 ((a : Int) + (b : Int) * (Y : Int)))]) (J := fun _ _ w => Chg (fun _ => False) wr w) [] (fun i =>  0) ([]) (fun slot => match slot with | 62 => u62 | 63 => u63 | 64 => u64 | 65 => u65 | 66 => u66 | 67 => u67 | 68 => u68 | 69 => u69 | 70 => u70 | _ => undef) rfl (by kernel_rfl) 9 _ rfl rfl (by kernel_rfl) (by kernel_rfl) (by kernel_rfl) (by decide) ?_ ?_ ?_ (by kernel_rfl) ?_ ?_
            · repeat (refine ⟨fun _ _ => rfl, ?_⟩)
              exact trivial
            · exact fun q u u2 w _ h => h
            · exact (Chg.refl _ _).drew
            · refine ⟨?_, ?_, ?_, ?_, ?_, ?_, ?_, ?_, ?_, trivial⟩
              · show StepRQ _ _ _ _ _ _ _ _ _ -- 62
                unfold StepRQ
                intro q hq u w hj hd K hK
                clear hd
                go_simp
                exact hK.out (.int .i64 (a : Int)) rfl
              · show StepRQ _ _ _ _ _ _ _ _ _ -- 63
                unfold StepRQ
                intro q hq u w hj hd K hK
                clear hd
                go_simp
                exact hK.out (.slice (some ⟨g, 0, none⟩) N lc) rfl
              · show StepRQ _ _ _ _ _ _ _ _ _ -- 64
                unfold StepRQ
                intro q hq u w hj hd K hK
                clear hd
                go_simp
                exact hK.out (.int .i64 (j : Int)) rfl
              · show StepRQ _ _ _ _ _ _ _ _ _ -- 65
                unfold StepRQ
                intro q hq u w hj hd K hK
                have h63 : u 63 = .slice (some ⟨g, 0, none⟩) N lc := hd.get 1 (by kernel_rfl)
                have h64 : u 64 = .int .i64 (j : Int) := hd.get 2 (by kernel_rfl)
                clear hd
                simp only [h63, h64] at hK
                go_simp
                exact hK.out (.pointer (some ⟨g, j, none⟩)) rfl
              · show StepRQ _ _ _ _ _ _ _ _ _ -- 66
                unfold StepRQ
                intro q hq u w hj hd K hK
                have h65 : u 65 = .pointer (some ⟨g, j, none⟩) := hd.get 3 (by kernel_rfl)
                clear hd
                simp only [h65] at hK
                have hcell2 := cell_chg hcell hj
                go_simp
                exact hK.out _ rfl
              · show StepRQ _ _ _ _ _ _ _ _ _ -- 67
                unfold StepRQ
                intro q hq u w hj hd K hK
                clear hd
                go_simp
                exact hK.out (.int .i64 (j : Int)) rfl
              · show StepRQ _ _ _ _ _ _ _ _ _ -- 68
                unfold StepRQ
                intro q hq u w hj hd K hK
                have h67 : u 67 = .int .i64 (j : Int) := hd.get 5 (by kernel_rfl)
                clear hd
                simp only [h67] at hK
                go_simp
                go_at_call 91
                refine (HTW.out w).mono ?_
                rintro x w2 ⟨rfl, rfl⟩
                exact hK.out _ rfl
              · show StepRQ _ _ _ _ _ _ _ _ _ -- 69
                unfold StepRQ
                intro q hq u w hj hd K hK
                have h66 : u 66 = .int .i64 (b : Int) := hd.get 4 (by kernel_rfl)
                have h68 : u 68 = .int .i64 (Y : Int) := hd.get 6 (by kernel_rfl)
                clear hd
                simp only [h66, h68] at hK
                go_simp
                first | exact hK.out (.int .i64 ((b : Int) * (Y : Int))) rfl | (rw [hm1]; exact hK.out (.int .i64 ((b : Int) * (Y : Int))) rfl)
              · show StepRQ _ _ _ _ _ _ _ _ _ -- 70
                unfold StepRQ
                intro q hq u w hj hd K hK
                have h62 : u 62 = .int .i64 (a : Int) := hd.get 0 (by kernel_rfl)
                have h69 : u 69 = .int .i64 ((b : Int) * (Y : Int)) := hd.get 7 (by kernel_rfl)
                clear hd
                simp only [h62, h69] at hK
                go_simp
                first | exact hK.out (.int .i64 ((a : Int) + (b : Int) * (Y : Int))) rfl | (rw [hm2]; exact hK.out (.int .i64 ((a : Int) + (b : Int) * (Y : Int))) rfl)
            · intro u w hj hA K hK
              have e70 : u 70 = .int .i64 ((a : Int) + (b : Int) * (Y : Int)) := hA.at 70 (by kernel_rfl)
              clear hA
              have HC9 : Hid (RdW w0 w B B' r s m y us bs d xs) := HD2.out.new hj
              have HRW9 : Hid (w.ownsRow w0.heap.size 3 1 (.slice (some ⟨g, 0, none⟩) N lc) N (ins .i64 (nums l))) := ownsRow_keep HRL.out hj (fun _ _ f => f)
              rw [HSUM.out] at e70
              generalize a + b * Y = a2 at *
              clear hj hcell hm1 hm2 HSUM
              go_simp
              refine hK.out _ _ ?_
              go_wp2_with fail
              go_roundw
              case rel => exact ⟨j + 1, a2, by omega, rfl, by go_num, HNX.out, HRW9.out, HC9.out⟩
              case measure => simp [intOf]; omega
          · have hkn2 : N = j := by omega
            subst hkn2
            have hd : decide ((N : Int) < (N : Int)) = false := by simp
            have HE : Hid (a = numO true l) := by
              show _ = _
              rw [HAC.out, List.take_of_length_le (by rw [HLN.out]; exact Nat.le_refl _)]
              rfl
            go_wp2
            go_ret2
            refine .inr ⟨HF.out, .inr ⟨(l, d, xs), HGF.out, ?_, HD2.out⟩⟩
            rw [← HE.out]
            rfl
      | false =>
        go_loopw [18, 19] (fun av iv wr => ∃ j a : Nat, j ≤ N ∧ av = .int .i64 (a : Int) ∧ iv = .int .i64 (j : Int) ∧ Hid (a = numF 0 (l.take j)) ∧ Hid (wr.ownsRow w0.heap.size 3 1 (.slice la N lc) N (ins .i64 (nums l))) ∧ Hid (RdW w0 wr B B' r s m y us bs d xs)) (fun _ iv _ => N - (intOf iv).toNat)
        case atStart => exact ⟨0, 0, Nat.zero_le _, rfl, rfl, rfl, HRN.out, HD.out⟩
        case round =>
          clear HRN HD
          obtain ⟨j, a, hj2, rfl, rfl, HAC, HRL, HD2⟩ := hrel
          have ha : a ≤ 65535 := by
            have h9 := numO_le false (l := l.take j) (fun x hx => HB01.out x (List.mem_of_mem_take hx)) (by rw [List.length_take]; have := HN16.out; omega)
            have := HAC.out
            unfold numO at h9
            simp only [Bool.false_eq_true, if_false] at h9
            omega
          by_cases hjl : j < N
          · obtain ⟨b, hb⟩ : ∃ b, l[j]? = some b := ⟨_, List.getElem?_eq_getElem (by rw [HLN.out]; exact hjl)⟩
            have HB : Hid (l[j]? = some b) := hb
            have hb1 : b ≤ 1 := HB01.out b (List.mem_of_getElem? hb)
            obtain ⟨g, cap, eg, _, _, _, _, _, hcl⟩ := own_some HRL.out (by omega)
            cases eg
            have hcell : wr.cell? ⟨g, j, none⟩ = some (.int .i64 (b : Int)) := hcl j _ (by simp [ins, nums, hb])
            clear hcl hb
            have HNX : Hid (2 * a + b = numF 0 (l.take (j + 1))) := by
              show _ = _
              rw [List.take_add_one, HB.out]
              simp only [Option.toList_some]
              rw [numF_append, HAC.out]
            have hm1 : IntKind.i64.wrap (2 * (a : Int)) = 2 * (a : Int) := wr64 (by omega) (by omega)
            clear HB
            go_wp2_with fail
            go_roundw
            case rel => exact ⟨j + 1, 2 * a + b, by omega, by go_num, by go_num, HNX.out, HRL.out, HD2.out⟩
            case measure => simp [intOf]; omega
          · have hkn2 : N = j := by omega
            subst hkn2
            have hd : decide ((N : Int) < (N : Int)) = false := by simp
            have HE : Hid (a = numO false l) := by
              show _ = _
              rw [HAC.out, List.take_of_length_le (by rw [HLN.out]; exact Nat.le_refl _)]
              rfl
            go_wp2
            go_ret2
            refine .inr ⟨HF.out, .inr ⟨(l, d, xs), HGF.out, ?_, HD2.out⟩⟩
            rw [← HE.out]
            rfl
end Go.Proofs.Ytibgjpifmpljkaa

/- Numbers put again and again; bits the other way round: mathematics; of no statement by itself. -/
namespace Go.Proofs.Ytibgjpifmpljkaa
open Go.RowKit
set_option linter.unusedVariables false

theorem encX_bit_at {xs : List Int} {j b i : Nat} (hj : j < xs.length) (hb : b ≤ 1) : (encX ⟨false, (j : Int), 0, b⟩ xs).getD i 1024 = if i = j then Prob.nx (xs.getD j 1024) (b : Int) else xs.getD i 1024 := by
  rw [(enc_bit (e := Rc.start) hj hb).2, List.getD_eq_getElem?_getD, List.getElem?_set]
  by_cases h : j = i
  · subst h
    simp [hj, List.getD_eq_getElem?_getD]
  · rw [if_neg h, if_neg (fun f => h f.symm), List.getD_eq_getElem?_getD]
/-- What lies ahead of a way stays. -/
theorem way_keep (p : Nat) : ∀ (l : List Nat) (m : Nat) (e : Rc.E) (xs : List Int) (i : Nat), Bits01 l → (∀ q ∈ wayQ p m l, q.ok xs.length) → i < p + m → (encL (wayQ p m l) e xs).2.getD i 1024 = xs.getD i 1024
  | [], m, e, xs, i, _, _, _ => rfl
  | b :: l, m, e, xs, i, h01, hq, hi => by
    have hb : b ≤ 1 := h01 b (List.mem_cons_self ..)
    have hok := hq _ (List.mem_cons_self ..)
    have hj : p + m < xs.length := by
      unfold Q.ok at hok
      rw [if_neg (fun f => by cases f)] at hok
      simp only at hok
      omega
    show (encL (_ :: _) e xs).2.getD i 1024 = _
    rw [encL, if_pos hok, way_keep p l (2 * m + b) _ _ i (fun x hx => h01 x (List.mem_cons_of_mem _ hx)) (fun q h => by rw [encX_len]; exact hq q (List.mem_cons_of_mem _ h)) (by omega), encX_bit_at hj hb, if_neg (by omega)]
/-- Along a way each place holds what its bit says. -/
def AtW (xs : List Int) (p m : Nat) (l : List Nat) (f : Nat → Int) : Prop := ∀ j b, l[j]? = some b → xs.getD (p + wayM m (l.take j)) 1024 = f b
theorem wayM_ge : ∀ (l : List Nat) (m : Nat), m ≤ wayM m l
  | [], m => Nat.le_refl _
  | b :: l, m => Nat.le_trans (by omega) (wayM_ge l (2 * m + b))
theorem put_at (p : Nat) (f : Nat → Int) : ∀ (l : List Nat) (m : Nat) (e : Rc.E) (xs : List Int), 1 ≤ m → Bits01 l → (∀ q ∈ wayQ p m l, q.ok xs.length) → AtW xs p m l f → AtW (encL (wayQ p m l) e xs).2 p m l (fun b => Prob.nx (f b) (b : Int))
  | [], m, e, xs, _, _, _, _ => fun j b h => by simp at h
  | b :: l, m, e, xs, hm, h01, hq, ha => by
    have hb : b ≤ 1 := h01 b (List.mem_cons_self ..)
    have h01' : Bits01 l := fun x hx => h01 x (List.mem_cons_of_mem _ hx)
    have hok := hq _ (List.mem_cons_self ..)
    have hj : p + m < xs.length := by
      unfold Q.ok at hok
      rw [if_neg (fun f => by cases f)] at hok
      simp only at hok
      omega
    have hq' : ∀ q ∈ wayQ p (2 * m + b) l, q.ok (encX ⟨false, ((p + m : Nat) : Int), 0, b⟩ xs).length := fun q h => by rw [encX_len]; exact hq q (List.mem_cons_of_mem _ h)
    have h0 := ha 0 b rfl
    simp only [List.take_zero, wayM] at h0
    have ha' : AtW (encX ⟨false, ((p + m : Nat) : Int), 0, b⟩ xs) p (2 * m + b) l f := fun j c hc => by
      have := wayM_ge (l.take j) (2 * m + b)
      rw [encX_bit_at hj hb, if_neg (by omega)]
      have h9 := ha (j + 1) c (by simpa using hc)
      simpa [wayM] using h9
    have ih := put_at p f l (2 * m + b) (encE ⟨false, ((p + m : Nat) : Int), 0, b⟩ e xs) _ (by omega) h01' hq' ha'
    show AtW (encL (_ :: _) e xs).2 p m (b :: l) _
    rw [encL, if_pos hok]
    intro j c hc
    cases j with
    | zero =>
      simp at hc
      subst hc
      simp only [List.take_zero, wayM]
      rw [way_keep p l (2 * m + b) _ _ (p + m) h01' hq' (by omega), encX_bit_at hj hb, if_pos rfl, h0]
    | succ j =>
      have h9 := ih j c (by simpa using hc)
      simpa [wayM] using h9
theorem costW_at (xs : List Int) (p : Nat) (f : Nat → Int) : ∀ (l : List Nat) (m : Nat), AtW xs p m l f → costW xs p m l = (l.map fun b => Prob.co (f b) (b : Int)).sum
  | [], m, _ => rfl
  | b :: l, m, ha => by
    have h0 := ha 0 b rfl
    simp only [List.take_zero, wayM] at h0
    have ih := costW_at xs p f l (2 * m + b) (fun j c hc => by
      have h9 := ha (j + 1) c (by simpa using hc)
      simpa [wayM] using h9)
    simp only [costW, List.map_cons, List.sum_cons, h0, ih]
/-- After i puts. -/
def fP : Nat → Nat → Int
  | 0, _ => 1024
  | i + 1, b => Prob.nx (fP i b) (b : Int)
theorem fP_in : ∀ i b, 31 ≤ fP i b ∧ fP i b ≤ 2017
  | 0, b => by simp [fP]
  | i + 1, b => Prob.nx_lo (fP_in i b).1 (fP_in i b).2
theorem fP_less (i b : Nat) : Prob.co (fP (i + 1) b) (b : Int) ≤ Prob.co (fP i b) (b : Int) := by
  have h := fP_in i b
  have h' := fP_in (i + 1) b
  by_cases hb : (b : Int) = 0
  · rw [hb, Prob.co0 (by omega) (by omega), Prob.co0 (by omega) (by omega)]
    refine Prob.cost_le (by omega) (by omega) ?_
    show _ ≤ Prob.nx (fP i b) (b : Int)
    rw [hb, Prob.nx0 (by omega) (by omega)]
    exact Prob.up_ge (by omega)
  · rw [Prob.co1 hb (by omega) (by omega), Prob.co1 hb (by omega) (by omega)]
    refine Prob.cost_le (by omega) (by omega) ?_
    have h9 : fP (i + 1) b ≤ fP i b := by
      show Prob.nx (fP i b) (b : Int) ≤ _
      rw [Prob.nx1 hb (by omega) (by omega)]
      exact Prob.dn_ge (by omega)
    omega
theorem fP_end0 : Prob.co (fP 300 0) 0 = 1 := by decide +kernel
theorem fP_end1 : Prob.co (fP 300 1) 1 = 1 := by decide +kernel
theorem sum_le {f g : Nat → Int} : ∀ l : List Nat, (∀ b ∈ l, f b ≤ g b) → (l.map f).sum ≤ (l.map g).sum
  | [], _ => Int.le_refl _
  | b :: l, h => by
    have h1 := h b (List.mem_cons_self ..)
    have h2 := sum_le l (fun x hx => h x (List.mem_cons_of_mem _ hx))
    simp only [List.map_cons, List.sum_cons]
    omega
theorem sum_end {l : List Nat} (h : Bits01 l) : (l.map fun b => Prob.co (fP 300 b) (b : Int)).sum = (l.length : Int) := by
  induction l with
  | nil => rfl
  | cons b l ih =>
    have hb : b ≤ 1 := h b (List.mem_cons_self ..)
    have ih' := ih (fun x hx => h x (List.mem_cons_of_mem _ hx))
    simp only [List.map_cons, List.sum_cons, List.length_cons, ih']
    have h1 : Prob.co (fP 300 b) (b : Int) = 1 := by
      rcases (show b = 0 ∨ b = 1 by omega) with rfl | rfl
      · exact fP_end0
      · exact fP_end1
    rw [h1]
    omega
theorem AtW_start (n p m : Nat) (l : List Nat) : AtW (List.replicate n 1024) p m l (fP 0) := fun j b _ => by
  show (List.replicate n (1024 : Int)).getD _ 1024 = 1024
  rw [List.getD_eq_getElem?_getD, List.getElem?_replicate]
  split <;> rfl
end Go.Proofs.Ytibgjpifmpljkaa
