/- The contracts of the document's own writer, of no statement by themselves. -/
import Derived.Test.YtgfibbabfpphpaaRefNum
import Derived.Test.YtgfibbabfpphpaaLays
import Derived.Deep.RegionLaw
namespace Go.Proofs.Ytgfibbabfpphpaa
open Go.RowKit

/-- The document's writer at block a: the slice that owns its bytes. -/
structure RW (B : Nat) (w : World) (a : Nat) (v : Value) (bs : List Int) : Prop where
  lo : B ≤ a
  blk : w.heap[a]? = some (.cells #[v] 44 (0, 0))
  row : w.ownsRow B 5 1 v bs.length (cells8 bs)

theorem RW.lt {B : Nat} {w : World} {a : Nat} {v : Value} {bs : List Int} (h : RW B w a v bs) : a < w.heap.size := lt_of_blk h.blk
theorem RW.ne {B : Nat} {w : World} {a : Nat} {v : Value} {bs : List Int} (h : RW B w a v bs) : v.ownBlock ≠ some a := row_ne h.row h.blk (by decide)
theorem RW.keep {B : Nat} {w w' : World} {S : Nat → Prop} {a : Nat} {v : Value} {bs : List Int} (h : RW B w a v bs) (hc : Chg S w w') (ha : ¬ S a) (hS : ∀ g, v.ownBlock = some g → ¬ S g) : RW B w' a v bs :=
  ⟨h.lo, blk_keep h.blk hc ha, ownsRow_keep h.row hc hS⟩
theorem RW.new {B : Nat} {w w' : World} {a : Nat} {v : Value} {bs : List Int} (h : RW B w a v bs) (hc : Chg (fun _ => False) w w') : RW B w' a v bs := h.keep hc (fun f => f) (fun _ _ f => f)
theorem RW.foot {B : Nat} {w : World} {a : Nat} {v : Value} {bs : List Int} (h : RW B w a v bs) : ∀ k, Foot a v k → B ≤ k ∧ k < w.heap.size := by
  intro k hk
  rcases hk with e | e
  · subst e; exact ⟨h.lo, h.lt⟩
  · exact h.row.lt k e

/-- Behind an append and a store. -/
theorem rw_put {B : Nat} {w w1 : World} {a : Nat} {v v' : Value} {bs news : List Int} (h : RW B w a v bs) (hown : w1.ownsRow B 5 1 v' (bs.length + news.length) (cells8 bs ++ cells8 news)) (hg : w.grownBy w1 v.ownBlock) (hm : Moved w v v') :
    RW B (w1.setCell ⟨a, 0, none⟩ v') a v' (bs ++ news) ∧ Chg (Foot a v) w (w1.setCell ⟨a, 0, none⟩ v') ∧ Moved w v v' := by
  have hb : w1.heap[a]? = some (.cells #[v] 44 (0, 0)) := (hg.block a h.lt (fun e => h.ne e.symm)).trans h.blk
  have hne : v'.ownBlock ≠ some a := row_ne hown hb (by decide)
  refine ⟨⟨h.lo, one_setCell hb, ?_⟩, ((Chg.refl _ w).grown hg (fun k e => .inl (.inr e))).setCell (p := ⟨a, 0, none⟩) (.inl (.inl rfl)) _, hm⟩
  have := ownsRow_setCell_other hown (a := ⟨a, 0, none⟩) hne v'
  rw [List.length_append, cells8_append]
  exact this

theorem rw_mid {B : Nat} {w w1 : World} {a : Nat} {v : Value} {bs : List Int} (h : RW B w a v bs) (hg : w.grownBy w1 v.ownBlock) : w1.cell? ⟨a, 0, none⟩ = some v ∧ w1.frozen? ⟨a, 0, none⟩ = false := by
  have hb : w1.heap[a]? = some (.cells #[v] 44 (0, 0)) := (hg.block a h.lt (fun e => h.ne e.symm)).trans h.blk
  exact ⟨cell_of_one hb, free_of_one hb⟩

set_option maxRecDepth 100000 in
set_option maxHeartbeats 1000000 in
theorem refPut_any (B a : Nat) (v : Value) (bs news : List Int) (ad : Option Addr) (m c : Nat) (w : World) (h : RW B w a v bs) (hB : B ≤ w.heap.size) (hsrc : Row8 w ad m c news) (hlen : bs.length + m ≤ 140737488355328) :
    Calls Try.prog 40 #[.pointer (some ⟨a, 0, none⟩), .slice ad m c] w fun e w' => e = .returned (.tuple #[]) ∧ ∃ v', RW B w' a v' (bs ++ news) ∧ Chg (Foot a v) w w' ∧ Moved w v v' := by
  obtain ⟨i0, hi, hz0, hz1, hz2⟩ := info_parts info5
  obtain rfl := hsrc.1
  obtain ⟨va, vc, rfl, _⟩ := own_row8 h.row
  have hc0 := cell_of_one h.blk
  have hf0 := free_of_one h.blk
  go_enter Try.func40, Try.ntmps40
  go_wp2_with (at_builtin; refine wpList_append_moved rfl (.tmp 8) (.tmp 9) 22 rfl B 5 i0 (.int .u8 0) 1 1 Try.underlying22 hi hz0 hz1 hz2 rfl (by decide) _ bs.length (cells8 bs) rfl ad news.length c rfl (cells8 news) h.row hsrc.src (oneCells _) (by unfold maxLen; omega) (by omega) hB ?_)
  intro v' w1 hown hg hm
  have HF : Hid (RW B (w1.setCell ⟨a, 0, none⟩ v') a v' (bs ++ news) ∧ Chg (Foot a (.slice va bs.length vc)) w (w1.setCell ⟨a, 0, none⟩ v') ∧ Moved w (.slice va bs.length vc) v') := rw_put h hown hg hm
  obtain ⟨k0, f0⟩ := rw_mid h hg
  obtain ⟨va', vc', rfl⟩ : ∃ va' vc', v' = .slice va' (bs.length + news.length) vc' := by
    rcases own_shape hown with ⟨rfl, e⟩ | ⟨g, cap, rfl⟩
    · exact ⟨none, 0, by rw [e]⟩
    · exact ⟨_, cap, rfl⟩
  clear hm hown hg hc0 hf0 hsrc h
  go_wp2
  go_end0
  exact ⟨rfl, _, HF.out⟩

set_option maxHeartbeats 400000 in
theorem refWZeros_no (a : Nat) (n : Int) (w : World) (h : n < 0 ∨ 65536 < n) :
    Calls Try.prog 41 #[.pointer (some ⟨a, 0, none⟩), .int .i64 n] w fun e w' => e = .returned (.int .i64 7) ∧ w = w' := by
  rcases h with h | h
  · go_enter Try.func41, Try.ntmps41
    go_wp2
    go_ret
    exact ⟨rfl, rfl⟩
  · have h0 : 0 ≤ n := by omega
    go_enter Try.func41, Try.ntmps41
    go_wp2
    go_ret
    exact ⟨rfl, rfl⟩

set_option maxRecDepth 100000 in
set_option maxHeartbeats 1000000 in
theorem refWZeros_yes (B a : Nat) (v : Value) (bs : List Int) (n : Nat) (w : World) (h : RW B w a v bs) (hB : B ≤ w.heap.size) (hn : n ≤ 65536) (hlen : bs.length ≤ 140737488250000) :
    Calls Try.prog 41 #[.pointer (some ⟨a, 0, none⟩), .int .i64 n] w fun e w' => e = .returned (.int .i64 0) ∧ ∃ v', RW B w' a v' (bs ++ List.replicate n 0) ∧ Chg (Foot a v) w w' ∧ Moved w v v' := by
  obtain ⟨i0, hi, hz0, hz1, hz2⟩ := info_parts info5
  have h0 : decide ((65536 : Int) < (n : Int)) = false := by simp; omega
  go_enter Try.func41, Try.ntmps41
  go_wp2_with fail
  go_loopw [5] (fun i wr => ∃ k : Nat, k ≤ n ∧ i = .int .i64 k ∧ ∃ vv, RW B wr a vv (bs ++ List.replicate k 0) ∧ Chg (Foot a v) w wr ∧ Moved w v vv) (fun i _ => n - (intOf i).toNat)
  case atStart => exact ⟨0, Nat.zero_le _, rfl, v, by simpa using h, Chg.refl _ _, Moved.refl _ _⟩
  case round =>
    obtain ⟨k, hk, rfl, vv, hw, hc, hm⟩ := hrel
    by_cases hlt : k < n
    · obtain ⟨L, hL⟩ : ∃ L, L = bs ++ List.replicate k (0 : Int) := ⟨_, rfl⟩
      have HL : Hid (L ++ [0] = bs ++ List.replicate (k + 1) (0 : Int)) := by unfold Hid; rw [hL, List.replicate_succ', List.append_assoc]
      have hl1 : L.length ≤ bs.length + k := by rw [hL]; simp
      rw [← hL] at hw
      clear hL
      obtain ⟨va, vc, rfl, _⟩ := own_row8 hw.row
      have hc0 := cell_of_one hw.blk
      have hf0 := free_of_one hw.blk
      have hwa := hw.new (chg_one _ wr (.cells #[.int .u8 0] 5))
      have hBr : B ≤ (wr.alloc (.cells #[.int .u8 0] 5)).heap.size := by have := hc.size; simp; omega
      go_wp2_with (at_builtin; refine wpList_append_moved rfl (.tmp 21) (.tmp 22) 22 rfl B 5 i0 (.int .u8 0) 1 1 Try.underlying22 hi hz0 hz1 hz2 rfl (by decide) _ L.length (cells8 L) rfl (some ⟨wr.heap.size, 0, none⟩) 1 1 rfl [.int .u8 0] hwa.row (row8_one wr 0 5).src (oneCells [0]) (by unfold maxLen; omega) (by omega) hBr ?_)
      intro v1 w1 hown hg hm1
      obtain ⟨R1, R2, R3⟩ := rw_put (news := [0]) hwa hown hg hm1
      rw [HL.out] at R1
      have C1 : Chg (Foot a v) w _ := (hc.alloc (.cells #[.int .u8 0] 5)).trans R2 (hm.foot a)
      have M1 : Moved w v v1 := hm.trans (Nat.le_trans hc.size (by simp)) R3
      obtain ⟨k0, f0⟩ := rw_mid hwa hg
      obtain ⟨va', vc', rfl⟩ : ∃ va' vc', v1 = .slice va' (L.length + 1) vc' := by
        rcases own_shape hown with ⟨rfl, e⟩ | ⟨g, cap, rfl⟩
        · omega
        · exact ⟨_, cap, rfl⟩
      clear hm1 hown hg hc0 hf0 hwa R2 R3 hw hc hm
      go_wp2
      go_roundw
      case rel => exact ⟨k + 1, by omega, by go_num, _, R1, C1, M1⟩
      case measure => simp [intOf]; omega
    · obtain rfl : k = n := by omega
      go_wp2
      go_ret
      exact ⟨rfl, vv, hw, hc, hm⟩

theorem byteAt_step (v : Int) (hv : 0 ≤ v) (k : Nat) : v / 2 ^ (8 * k) / 256 = v / 2 ^ (8 * (k + 1)) := by
  obtain ⟨u, rfl⟩ := Int.eq_ofNat_of_zero_le hv
  have e1 : ((u : Int) / 2 ^ (8 * k) / 256) = ((u / 2 ^ (8 * k) / 256 : Nat) : Int) := by simp
  have e2 : ((u : Int) / 2 ^ (8 * (k + 1))) = ((u / 2 ^ (8 * (k + 1)) : Nat) : Int) := by simp
  rw [e1, e2, Nat.div_div_eq_div_mul, show 8 * (k + 1) = 8 * k + 8 by omega, Nat.pow_add]

set_option maxRecDepth 100000 in
set_option maxHeartbeats 1000000 in
theorem refLowList_any (v : Int) (n : Nat) (w : World) (hn : n ≤ 8) (hv : 0 ≤ v) (hv1 : v < 18446744073709551616) :
    Calls Try.prog 53 #[.int .u64 v, .int .i64 n] w fun e w' => ∃ u, e = .returned u ∧ w'.ownsRow w.heap.size 5 1 u n (cells8 (lowBytes v n)) ∧ Chg (fun _ => False) w w' := by
  obtain ⟨i0, hi, hz0, hz1, hz2⟩ := info_parts info5
  go_enter Try.func53, Try.ntmps53
  go_wp2_with fail
  go_loopw [0, 5, 6] (fun x b i wr => ∃ k : Nat, k ≤ n ∧ i = .int .i64 k ∧ x = .int .u64 (v / 2 ^ (8 * k)) ∧ wr.ownsRow w.heap.size 5 1 b k (cells8 (lowBytes v k)) ∧ Chg (fun _ => False) w wr) (fun _ _ i _ => n - (intOf i).toNat)
  case atStart => exact ⟨0, Nat.zero_le _, rfl, by simp, World.ownsRow_nil _ _ _ _, Chg.refl _ _⟩
  case round =>
    obtain ⟨k, hk, rfl, rfl, ho, hc⟩ := hrel
    by_cases hlt : k < n
    · have hlt2 := fun b e => (ho.lt b e).1
      have hsz := hc.size
      have hal := fun o => ho.alloc o
      obtain ⟨x, hx⟩ : ∃ x, x = v / 2 ^ (8 * k) := ⟨_, rfl⟩
      have HX : Hid (x = v / 2 ^ (8 * k)) := hx
      have hx0 : 0 ≤ x := by rw [hx]; exact Int.ediv_nonneg hv (Int.pow_nonneg (by omega))
      rw [← hx]
      clear hx
      go_wp2_with (at_builtin; refine wpList_append_moved rfl (.tmp 12) (.tmp 16) 22 rfl w.heap.size 5 i0 (.int .u8 0) 1 1 Try.underlying22 hi hz0 hz1 hz2 rfl (by decide) _ k (cells8 (lowBytes v k)) rfl (some ⟨wr.heap.size, 0, none⟩) 1 1 rfl [.int .u8 (x % 256)] (hal _) (row8_one wr _ 5).src (oneCells [_]) (by unfold maxLen; omega) (by omega) (by simp; omega) ?_)
      intro v1 w1 hown hg _
      have hc1 : Chg (fun _ => False) w w1 := (hc.alloc _).grown hg (fun b e => .inr (hlt2 b e))
      have ho1 : w1.ownsRow w.heap.size 5 1 v1 (k + 1) (cells8 (lowBytes v (k + 1))) := by
        rw [lowBytes_succ, cells8_append]
        have e : byteAt v k = x % 256 := by unfold byteAt; rw [← HX.out]
        rw [e]
        exact hown
      have HX2 : Hid (IntKind.u64.wrap (x.tdiv 256) = v / 2 ^ (8 * (k + 1))) := by
        unfold Hid
        have hle : x ≤ v := by rw [HX.out]; exact Int.ediv_le_self _ hv
        rw [Int.tdiv_eq_ediv_of_nonneg hx0, wrap_u64 _ (by omega) (by omega), HX.out]
        exact byteAt_step v hv k
      clear hg hown hal ho hc
      go_wp2
      go_roundw
      case rel => exact ⟨k + 1, by omega, by go_num, congrArg (Value.int .u64) HX2.out, ho1, hc1⟩
      case measure => simp [intOf]; omega
    · obtain rfl : k = n := by omega
      go_wp2
      go_ret
      exact ⟨_, rfl, ho, hc⟩

theorem own_form {w : World} {B : Nat} {v : Value} {n : Nat} {xs : List Value} (h : w.ownsRow B 5 1 v n xs) : ∃ va vc, v = .slice va n vc := by
  rcases own_shape h with ⟨rfl, e⟩ | ⟨g, cap, rfl⟩
  · exact ⟨none, 0, by rw [e]⟩
  · exact ⟨_, cap, rfl⟩

/-- 'append' as one step of a region that draws its order. -/
theorem step_append_moved {P : Program} {ops : Array Oper} {o : Oper} {a : Act} {w : World} {K : Act → World → Prop} {Q : Exit → Act → World → Prop} {E : Prop} (hgd : o.guard = none) (s x : Operand) (t : TypeId)
    (ho : o.op = .call { callee := .builtin .append, args := #[s, x], argTypes := #[t, t] })
    (B : Nat) (e : TypeId) (i : TypeInfo) (z : Value) (size bytes : Nat) (ht : P.underlying t = some (.slice e)) (hi : P.info? e = some i) (hz : i.zero = some z)
    (hsize : i.size = size) (hby : i.bytes = bytes) (hzs : z.cells.size = size) (hsz : 0 < size)
    (v : Value) (n : Nat) (xs : List Value) (hs : a.eval s = v) (ad : Option Addr) (m c : Nat) (hx : a.eval x = .slice ad m c) (news : List Value)
    (hown : w.ownsRow B e size v n xs) (hsrc : From w ad m c size news) (h1 : ∀ u ∈ news, u.oneCell' = true)
    (h63 : n + m ≤ maxLen) (hbytes : (n + m) * bytes ≤ 140737488355328) (hB : B ≤ w.heap.size)
    (h : ∀ v' w', w'.ownsRow B e size v' (n + m) (xs ++ news) → w.grownBy w' v.ownBlock → Moved w v v' → K (a.put o.dst v') w') :
    if Region.wanted o (yielded ops a.tmps) = true then Oper.wp P o a w K Q else E := by
  have hw : Region.wanted o (yielded ops a.tmps) = true := by simp [Region.wanted, hgd]
  rw [if_pos hw]
  obtain ⟨v', w', hr, h2, h3, h4⟩ := run_append_moved (P := P) w B t o.type e i z size bytes ht hi hz hsize hby hzs hsz v n xs hown ad m c news hsrc h1 h63 hbytes hB
  unfold Oper.wp
  simp [execOp, ho, resolve, invoke, builtin, hs, hx, hr, Result.andThen]
  exact h v' w' h2 h3 h4

set_option maxHeartbeats 400000 in
theorem refWLow_no (a : Nat) (x n : Int) (w : World) (h : n < 1 ∨ 8 < n) :
    Calls Try.prog 38 #[.pointer (some ⟨a, 0, none⟩), .int .u64 x, .int .i64 n] w fun e w' => e = .returned (.int .i64 6) ∧ w = w' := by
  go_enter Try.func38, Try.ntmps38
  go_wp2_with (go_at_call 52; refine (refWidth_no _ _ h).mono ?_; rintro e w' ⟨rfl, rfl⟩)
  go_ret
  exact ⟨rfl, rfl⟩

set_option maxHeartbeats 400000 in
theorem refWHigh_no (a : Nat) (x n : Int) (w : World) (h : n < 1 ∨ 8 < n) :
    Calls Try.prog 39 #[.pointer (some ⟨a, 0, none⟩), .int .u64 x, .int .i64 n] w fun e w' => e = .returned (.int .i64 6) ∧ w = w' := by
  go_enter Try.func39, Try.ntmps39
  go_wp2_with (go_at_call 52; refine (refWidth_no _ _ h).mono ?_; rintro e w' ⟨rfl, rfl⟩)
  go_ret
  exact ⟨rfl, rfl⟩

set_option maxRecDepth 100000 in
set_option maxHeartbeats 2000000 in
theorem refWLow_yes (B a : Nat) (v : Value) (bs : List Int) (x : Int) (n : Nat) (w : World) (h : RW B w a v bs) (hB : B ≤ w.heap.size) (h1 : 1 ≤ n) (h2 : n ≤ 8) (hx : 0 ≤ x) (hx1 : x < 18446744073709551616) (hlen : bs.length ≤ 140737488350000) :
    Calls Try.prog 38 #[.pointer (some ⟨a, 0, none⟩), .int .u64 x, .int .i64 n] w fun e w' => e = .returned (.int .i64 0) ∧ ∃ v', RW B w' a v' (bs ++ lowBytes x n) ∧ Chg (Foot a v) w w' ∧ Moved w v v' := by
  obtain ⟨i0, hi, hz0, hz1, hz2⟩ := info_parts info5
  obtain ⟨va, vc, rfl, _⟩ := own_row8 h.row
  have hc0 := cell_of_one h.blk
  have hf0 := free_of_one h.blk
  go_enter Try.func38, Try.ntmps38
  go_wp2_with (go_at_call 52; refine (refWidth_yes _ _ (by omega) (by omega)).mono ?_; rintro e w' ⟨rfl, rfl⟩)
  go_region_law (first
    | (refine step_append_moved (by rfl) (.tmp 14) (.tmp 17) 22 (by rfl) B 5 i0 (.int .u8 0) 1 1 Try.underlying22 hi hz0 hz1 hz2 rfl (by decide) _ bs.length (cells8 bs) (by rfl) uad n uc (by rfl) (cells8 (lowBytes x n)) hRW2.row hur.src (oneCells _) (by unfold maxLen; omega) (by omega) hB2 ?_; intro v' w3 hown hg hm; have hfin := rw_put (news := lowBytes x n) hRW2 (by rw [lowBytes_length]; exact hown) hg hm; obtain ⟨hk3, hf3⟩ := rw_mid hRW2 hg; obtain ⟨va', vc', rfl⟩ := own_form hown)
    | (go_simp; refine (refLowList_any x n _ h2 hx hx1).mono ?_; rintro e w2 ⟨u, rfl, ho2, hc2⟩; obtain ⟨uad, uc, rfl, hur⟩ := own_row8 ho2; have hW2 : Chg (fun _ => False) w w2 := (Chg.refl (fun _ => False) w).drew.trans hc2 (fun _ f => f.elim); have hRW2 := h.new hW2; have hB2 := Nat.le_trans hB hW2.size; have hk2 := cell_of_one hRW2.blk; have hf2 := free_of_one hRW2.blk))
  all_goals
    obtain ⟨R1, R2, R3⟩ := hfin
    have C : Chg (Foot a (.slice va bs.length vc)) w _ := (chg_none hW2).trans R2 (fun _ e => .inl e)
    have M : Moved w (.slice va bs.length vc) _ := (Moved.refl w _).trans hW2.size R3
    clear hk3 hf3 hown hg hm R2 R3
    go_wp2
    go_ret
    exact ⟨rfl, _, R1, C, M⟩

set_option maxRecDepth 100000 in
set_option maxHeartbeats 2000000 in
theorem refWHigh_yes (B a : Nat) (v : Value) (bs : List Int) (x : Int) (n : Nat) (w : World) (h : RW B w a v bs) (hB : B ≤ w.heap.size) (h1 : 1 ≤ n) (h2 : n ≤ 8) (hx : 0 ≤ x) (hx1 : x < 18446744073709551616) (hlen : bs.length ≤ 140737488350000) :
    Calls Try.prog 39 #[.pointer (some ⟨a, 0, none⟩), .int .u64 x, .int .i64 n] w fun e w' => e = .returned (.int .i64 0) ∧ ∃ v', RW B w' a v' (bs ++ highBytes x n) ∧ Chg (Foot a v) w w' ∧ Moved w v v' := by
  obtain ⟨i0, hi, hz0, hz1, hz2⟩ := info_parts info5
  obtain ⟨va, vc, rfl, _⟩ := own_row8 h.row
  have hc0 := cell_of_one h.blk
  have hf0 := free_of_one h.blk
  go_enter Try.func39, Try.ntmps39
  go_wp2_with (go_at_call 52; refine (refWidth_yes _ _ (by omega) (by omega)).mono ?_; rintro e w' ⟨rfl, rfl⟩)
  go_region_law (first
    | (refine step_append_moved (by rfl) (.tmp 14) (.tmp 18) 22 (by rfl) B 5 i0 (.int .u8 0) 1 1 Try.underlying22 hi hz0 hz1 hz2 rfl (by decide) _ bs.length (cells8 bs) (by rfl) uad n uc (by rfl) (cells8 (highBytes x n)) hRW2.row hur.src (oneCells _) (by unfold maxLen; omega) (by omega) hB2 ?_; intro v' w3 hown hg hm; have hfin := rw_put (news := highBytes x n) hRW2 (by rw [highBytes_length]; exact hown) hg hm; obtain ⟨hk3, hf3⟩ := rw_mid hRW2 hg; obtain ⟨va', vc', rfl⟩ := own_form hown)
    | (go_simp; refine (refLowList_any x n _ h2 hx hx1).mono ?_; rintro e w1 ⟨u, rfl, ho1, hc1⟩; obtain ⟨uad1, uc1, rfl, hur1⟩ := own_row8 ho1; have hW1 : Chg (fun _ => False) w w1 := (Chg.refl (fun _ => False) w).drew.trans hc1 (fun _ f => f.elim); have hRW1 := h.new hW1; have hk1 := cell_of_one hRW1.blk; have hf1 := free_of_one hRW1.blk)
    | (go_simp; refine (turned_any _ _ _ _ _ hur1 (by omega)).mono ?_; rintro e w2 ⟨u, rfl, ho2, hc2⟩; rw [← highBytes_rev] at ho2; obtain ⟨uad, uc, rfl, hur⟩ := own_row8 ho2; have hW2 : Chg (fun _ => False) w w2 := hW1.trans hc2 (fun _ f => f.elim); have hRW2 := h.new hW2; have hB2 := Nat.le_trans hB hW2.size; have hk2 := cell_of_one hRW2.blk; have hf2 := free_of_one hRW2.blk))
  all_goals
    obtain ⟨R1, R2, R3⟩ := hfin
    have C : Chg (Foot a (.slice va bs.length vc)) w _ := (chg_none hW2).trans R2 (fun _ e => .inl e)
    have M : Moved w (.slice va bs.length vc) _ := (Moved.refl w _).trans hW2.size R3
    clear hk3 hf3 hown hg hm R2 R3
    go_wp2
    go_ret
    exact ⟨rfl, _, R1, C, M⟩

end Go.Proofs.Ytgfibbabfpphpaa
