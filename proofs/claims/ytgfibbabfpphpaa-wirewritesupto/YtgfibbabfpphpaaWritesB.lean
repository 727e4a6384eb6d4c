/- The contract of the statements' own function writes at Len and Put, of no statement by itself. -/
import Derived.Test.YtgfibbabfpphpaaWrites
import Derived.Test.YtgfibbabfpphpaaLent
namespace Go.Proofs.Ytgfibbabfpphpaa
open Go.RowKit

theorem len_quiet (B a : Nat) (v : Value) (bs : List Int) (w : World) (k : Nat) (h : Wr B w a v bs) : Calls Try.prog 17 #[.pointer (some ⟨a, 0, none⟩)] (w.drewN k) fun e w'' => e = .returned (.int .i64 bs.length) ∧ ∃ m, w'' = w.drewN m :=
  (len_any B a v bs (w.drewN k) (h.keep (chg_drewN (S := fun _ => False) w k) (fun f => f) (fun _ _ f => f))).mono fun _ _ ⟨h1, h2⟩ => ⟨h1, k, h2.symm⟩

set_option maxRecDepth 100000 in
set_option maxHeartbeats 1000000 in
theorem writes_len (B a : Nat) (v : Value) (ra : Nat) (rv : Value) (bs : List Int) (two : Bool) (n x : Int) (ba : Option Addr) (bl bc : Nat) (lv : Value) (w : World) (h : TW B w a v ra rv bs) :
    Calls Try.prog 23 #[.pointer (some ⟨a, 0, none⟩), .pointer (some ⟨ra, 0, none⟩), .agg #[.int .i64 5, .bool two, .int .i64 n, .int .u64 x, .slice ba bl bc], lv] w fun e w' => e = .returned (.tuple #[lv, .bool true]) ∧ Writes B w a v ra rv bs 1048576 w' := by
  have hA := h.new (chg_one _ w (.cells #[.int .i64 5, .bool two, .int .i64 n, .int .u64 x, .slice ba bl bc] 47))
  have hC : Chg (fun _ => False) w (w.alloc (.cells #[.int .i64 5, .bool two, .int .i64 n, .int .u64 x, .slice ba bl bc] 47)) := chg_one _ w _
  clear h
  obtain ⟨va, vc, rfl⟩ := own_form hA.rw.row
  have c0 := cell_of_one hA.rw.blk
  have hd := hA.wr
  have HT : Hid (∀ k, TW B ((w.alloc (.cells #[.int .i64 5, .bool two, .int .i64 n, .int .u64 x, .slice ba bl bc] 47)).drewN k) a v ra (.slice va bs.length vc) bs) := fun k => hA.new (chg_drewN _ k)
  go_enter Try.func23, Try.ntmps23
  go_wp2_with fail
  go_quiet (first | (go_at_call 17; exact len_quiet B a v bs _ _ hd))
  clear hA hd c0
  go_wp2
  go_ret2
  exact ⟨rfl, v, _, bs, HT.out nq, by omega, chg_none (chg_then hC (chg_drewN _ nq)), Moved.refl _ _, Moved.refl _ _⟩

set_option maxRecDepth 100000 in
set_option maxHeartbeats 4000000 in
theorem writes_put (a : Nat) (v : Value) (ra : Nat) (rv : Value) (bs ys : List Int) (two : Bool) (n x : Int) (ba : Option Addr) (bl bc : Nat) (lv : Value) (w0 w : World) (h : TW w0.heap.size w a v ra rv bs) (hlen : bs.length ≤ 1099511627776) (hx : Row8 w0 ba bl bc ys) (hbl : bl ≤ 1048576) (h0 : Chg (fun k => w0.heap.size ≤ k) w0 w) :
    Calls Try.prog 23 #[.pointer (some ⟨a, 0, none⟩), .pointer (some ⟨ra, 0, none⟩), .agg #[.int .i64 3, .bool two, .int .i64 n, .int .u64 x, .slice ba bl bc], lv] w fun e w' => e = .returned (.tuple #[lv, .bool true]) ∧ Writes w0.heap.size w a v ra rv bs 1048576 w' := by
  have hxl := hx.1
  have hA := h.new (chg_one _ w (.cells #[.int .i64 3, .bool two, .int .i64 n, .int .u64 x, .slice ba bl bc] 47))
  have hC : Chg (fun _ => False) w (w.alloc (.cells #[.int .i64 3, .bool two, .int .i64 n, .int .u64 x, .slice ba bl bc] 47)) := chg_one _ w _
  have hbx := heap_alloc_new w (.cells #[.int .i64 3, .bool two, .int .i64 n, .int .u64 x, .slice ba bl bc] 47)
  obtain ⟨-, -, -, -, hk4⟩ := blk5_cell hbx
  have hNf : ¬ Foot a v w.heap.size := fun f => by have := (h.wr.foot _ f).2; omega
  have hNr : ¬ Foot ra rv w.heap.size := fun f => by have := (h.rw.foot _ f).2; omega
  have h01 := chg_then h0 hC
  have hx1 := row8_old hx h01 (fun k h => by omega)
  have hFt := h.lt
  clear h hbx
  go_enter Try.func23, Try.ntmps23
  go_wp2_with fail
  refine (lent_any _ _ _ _ _ hx1 (by omega)).mono ?_
  rintro e w1 ⟨gf, fcap, rfl, hf1, hc1⟩
  have hA1 := hA.new hc1
  have h02 := chg_then h01 hc1
  have hgf : w.heap.size + 1 ≤ gf := by have := (hf1.lt gf rfl).1; simpa using this
  have hr1 : Row8 w1 (some ⟨gf, 0, none⟩) bl fcap ys := by
    refine ⟨hxl, .inr ⟨_, rfl, fun j u hu => ?_⟩⟩
    have hadd : (⟨gf, 0, none⟩ : Addr).add j = ⟨gf, j, none⟩ := by unfold Addr.add; split <;> simp_all
    have hj : j < bl := by
      have := (List.getElem?_eq_some_iff.1 hu).1
      simpa [hxl] using this
    rw [hadd, hf1.cellAt j (by omega), cells8_append, List.getElem?_append_left (by simp [cells8]; omega)]
    exact hu
  have hk41 := cell_afterS hc1 hk4 (fun f => f)
  have hC1 := chg_then hC hc1
  have hgf1 : gf < w1.heap.size := (hf1.lt gf rfl).2
  have hNg : ∀ k, Feet a v ra rv k → k ≠ gf := fun k f e => by have := (hFt k f).2; omega
  clear hA hk4 hc1 hC h01 hx1
  go_wp2_with fail
  refine (put_m _ a v bs ys _ bl _ _ hA1.wr h02.size hr1 (by omega)).mono ?_
  rintro e w2 ⟨rfl, v2, hw2, hc2, hm2⟩
  have hr2 := hA1.mid hc2
  have hk42 := cell_afterS hc2 hk41 hNf
  have hf2 := own_keep hf1 hc2 (fun g e f => hNg g (.inl f) (by simpa [Value.ownBlock] using e.symm))
  have h03 : Chg (fun k => w0.heap.size ≤ k) w0 w2 := h02.trans hc2 (fun k f => .inl (hFt k (.inl f)).1)
  have hx2 := row8_old hx h03 (fun k h => by omega)
  clear hk41 hf1 hr1
  go_wp2_with fail
  refine (refPut_any _ ra rv bs ys ba bl bc _ hr2 h03.size hx2 (by omega)).mono ?_
  rintro e w3 ⟨rfl, v3, hr3, hc3, hm3⟩
  obtain ⟨T, C, M1, M2⟩ := hA1.step hw2 hc2 hm2 hr3 hc3 hm3
  have hk43 := cell_afterS hc3 hk42 hNr
  have hf3 := own_keep hf2 hc3 (fun g e f => hNg g (.inr f) (by simpa [Value.ownBlock] using e.symm))
  have h04 : Chg (fun k => w0.heap.size ≤ k) w0 w3 := h03.trans hc3 (fun k f => .inl (hFt k (.inr f)).1)
  have hx3 := row8_old hx h04 (fun k h => by omega)
  have hC3 : Chg (Feet a v ra rv) w w3 := (chg_none hC1).trans C (fun _ f => .inl f)
  have M1' := M1.trans' hC1.size
  have M2' := M2.trans' hC1.size
  have hgT : ∀ k, Feet a v2 ra v3 k → k ≠ gf := fun k f e => by
    rcases f with f | f
    · rcases (M1.foot a) k f with f | f
      · exact hNg k (.inl f) e
      · omega
    · rcases (M2.foot ra) k f with f | f
      · exact hNg k (.inr f) e
      · omega
  clear hA1 hw2 hc2 hm2 hr2 hr3 hc3 hm3 hk42 hf2 h02 h03 hx2 M1 M2 C
  go_wp2_with fail
  refine (kept_any _ _ _ _ _ _ _ _ hf3 hx3 (by omega)).mono ?_
  rintro e w4 ⟨rfl, k4, rfl⟩
  have hf4 : (w3.drewN k4).ownsRow _ 5 1 (.slice (some ⟨gf, 0, none⟩) (bl + 1) fcap) (bl + 1) (cells8 (ys ++ [165])) := own_keep hf3 (chg_drewN (S := fun _ => False) w3 k4) (fun _ _ f => f)
  have T4 := T.new (chg_drewN (S := fun _ => False) w3 k4)
  have hC4 : Chg (Feet a v ra rv) w (w3.drewN k4) := chg_then hC3 (chg_drewN w3 k4)
  generalize w3.drewN k4 = w4 at *
  clear hf3 hC3 T hk43 h04 hx3
  go_wp2_with fail
  go_loopw [71] (fun i wr => ∃ k : Nat, k ≤ bl + 1 ∧ i = .int .i64 k ∧ (∃ zs : List Int, wr.ownsRow (w.alloc (.cells #[.int .i64 3, .bool two, .int .i64 n, .int .u64 x, .slice ba bl bc] 47)).heap.size 5 1 (.slice (some ⟨gf, 0, none⟩) (bl + 1) fcap) (bl + 1) (cells8 zs)) ∧ Chg (fun k => k = gf) w4 wr) (fun i _ => bl + 1 - (intOf i).toNat)
  case atStart => exact ⟨0, Nat.zero_le _, rfl, ⟨_, hf4⟩, Chg.refl _ _⟩
  case round =>
    clear hf4
    obtain ⟨k, hk, rfl, ⟨zs, hz⟩, hcz⟩ := hrel
    by_cases hlt : k < bl + 1
    · have hzl : zs.length = bl + 1 := by simpa [cells8] using hz.1
      have ck : wr.cell? ⟨gf, k, none⟩ = some (.int .u8 (zs.getD k 0)) := by
        rw [hz.cellAt k (by omega)]
        simp [cells8, List.getD, show k < zs.length by omega]
      have fk := hz.frozenAt k
      have hst := fun u => (hz.stored k (.int .u8 u)).1
      generalize zs.getD k 0 = z at *
      have hC := fun u => hcz.setCell (p := ⟨gf, k, none⟩) (.inl rfl) (.int .u8 u)
      have HS : Hid (∀ u, ∃ zs : List Int, (wr.setCell ⟨gf, k, none⟩ (.int .u8 u)).ownsRow (w.alloc (.cells #[.int .i64 3, .bool two, .int .i64 n, .int .u64 x, .slice ba bl bc] 47)).heap.size 5 1 (.slice (some ⟨gf, 0, none⟩) (bl + 1) fcap) (bl + 1) (cells8 zs)) := fun u => ⟨zs.set k u, by simpa [cells8, List.map_set] using hst u⟩
      have HC : Hid (∀ u, Chg (fun k => k = gf) w4 (wr.setCell ⟨gf, k, none⟩ (.int .u8 u))) := hC
      clear hst hC hz hcz
      go_wp2
      go_roundw
      case rel => exact ⟨k + 1, by omega, by go_num, HS.out _, HC.out _⟩
      case measure => simp [intOf]; omega
    · have T5 : TW w0.heap.size wr a v2 ra v3 (bs ++ ys) := ⟨T4.wr.keep hcz (fun e => hgT a (.inl (.inl rfl)) e) (fun g e f => hgT g (.inl (.inr e)) f), T4.rw.keep hcz (fun e => hgT ra (.inr (.inl rfl)) e) (fun g e f => hgT g (.inr (.inr e)) f), T4.far⟩
      have hC5 : Chg (Feet a v ra rv) w wr := hC4.trans hcz (fun i e => .inr (by omega))
      clear hz hcz T4 hC4
      go_wp2
      go_ret2
      exact ⟨rfl, v2, v3, bs ++ ys, T5, by simp; omega, hC5, M1', M2'⟩

end Go.Proofs.Ytgfibbabfpphpaa
