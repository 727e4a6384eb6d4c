/- 'append' on a list that has no room, as a law and as a step of a region; the contract of tail; of no statement by themselves. -/
import Derived.Test.YtkjjcdkobapedaaDoorKnown
import Derived.Deep.RegionHeld3
namespace Go.Proofs.YtkjjcdkobapedaaDoor
open Go.RowKit

theorem info24 : (Tryd.prog.info? 24).map (fun i => (i.zero, i.size, i.bytes)) = some (some (.slice none 0 0), 1, 24) := by kernel_rfl

/-- 'append' on a list whose block is full: the list's block is as it was, and what is answered lies in new memory. -/
theorem run_append_full (w : World) (ty : TypeId) (g n : Nat) (ys : List Int) (hb : w.heap[g]? = some (.cells (cells8 ys).toArray 5 (0, 0))) (hn : ys.length = n) (ad : Option Addr) (m c : Nat) (zs : List Int) (hz : Row8 w ad m c zs) (hm : 0 < m) (hs : n + m ≤ 1048576) :
    ∃ v' w', (Builtin.append_ #[24, 24] ty #[.slice (some ⟨g, 0, none⟩) n n, .slice ad m c]).run Tryd.prog w = .ok v' w' ∧ w'.ownsRow w.heap.size 5 1 v' (n + m) (cells8 (ys ++ zs)) ∧ Chg (fun _ => False) w w' := by
  obtain ⟨i, hi, hz0, hz1, hz2⟩ := info_parts info5
  obtain ⟨x, rfl, hx⟩ : ∃ x, ad = some x ∧ ∀ j u, (zs.map (Value.int .u8))[j]? = some u → w.cell? (x.add j) = some u := by
    rcases hz.2 with ⟨_, e, _⟩ | e
    · omega
    · exact e
  have hown : w.ownsRow 0 5 1 (.slice (some ⟨g, 0, none⟩) n n) n (cells8 ys) := own_of_blk hb (Nat.zero_le _) hn (by omega)
  have hl : (zs.map (Value.int .u8)).length = m * 1 := by simp [hz.1]
  obtain ⟨v', w', hr, h2, h3, _⟩ := run_append_own (P := Tryd.prog) w 0 24 ty 5 i (.int .u8 0) 1 1 Tryd.underlying24 hi hz0 hz1 hz2 rfl (by decide) _ n _ hown x m c _ hl hx (oneCells zs) (by unfold maxLen; omega) (by omega) (Nat.zero_le _)
  have hr2 := run_append_grow (P := Tryd.prog) w 24 ty 5 i (.int .u8 0) Tryd.underlying24 hi hz0 ⟨g, 0, none⟩ n n (cells8 ys) (by simp [cells8, hn, hz1]) (hown.cells (g := g) rfl) x m c _ (by rw [hz1]; exact hl) hx (by omega) (by omega) (growslice_fits (by omega) (by rw [hz2]; omega))
  have hrr := hr
  rw [hr] at hr2
  simp only [Result.ok.injEq] at hr2
  obtain ⟨rfl, rfl⟩ := hr2
  refine ⟨_, _, hrr, ?_, ((Chg.refl _ w).drew).alloc _⟩
  refine ⟨by simpa [cells8] using h2.1, ?_⟩
  rcases h2.2 with ⟨e, _⟩ | ⟨g', cap, cur, e, _, rest⟩
  · cases e
  · refine .inr ⟨g', cap, cur, e, ?_, by simpa [cells8] using rest⟩
    simp only [Value.slice.injEq, Option.some.injEq, Addr.mk.injEq] at e
    omega

theorem step_append_full {ops : Array Oper} {o : Oper} {a : Act} {w : World} {K : Act → World → Prop} {Q : Exit → Act → World → Prop} {E : Prop} (hgd : o.guard = none) (s x : Operand)
    (ho : o.op = .call { callee := .builtin .append, args := #[s, x], argTypes := #[24, 24] })
    (g n : Nat) (ys : List Int) (hs : a.eval s = .slice (some ⟨g, 0, none⟩) n n) (ad : Option Addr) (m c : Nat) (hx : a.eval x = .slice ad m c) (zs : List Int)
    (hb : w.heap[g]? = some (.cells (cells8 ys).toArray 5 (0, 0))) (hn : ys.length = n) (hz : Row8 w ad m c zs) (hm : 0 < m) (hl : n + m ≤ 1048576)
    (h : ∀ v' w', w'.ownsRow w.heap.size 5 1 v' (n + m) (cells8 (ys ++ zs)) → Chg (fun _ => False) w w' → K (a.put o.dst v') w') :
    if Region.wanted o (yielded ops a.tmps) = true then Oper.wp Tryd.prog o a w K Q else E := by
  have hw : Region.wanted o (yielded ops a.tmps) = true := by simp [Region.wanted, hgd]
  rw [if_pos hw]
  obtain ⟨v', w', hr, h2, h3⟩ := run_append_full w o.type g n ys hb hn ad m c zs hz hm hl
  unfold Oper.wp
  simp [execOp, ho, resolve, invoke, builtin, hs, hx, hr, Result.andThen]
  exact h v' w' h2 h3

/-- 'append' as one step of a region that draws its order. -/
theorem step_append_moved {P : Program} {ops : Array Oper} {o : Oper} {a : Act} {w : World} {K : Act → World → Prop} {Q : Exit → Act → World → Prop} {E : Prop} (hgd : o.guard = none) (s x : Operand) (t : TypeId)
    (ho : o.op = .call { callee := .builtin .append, args := #[s, x], argTypes := #[t, t] })
    (B : Nat) (e : TypeId) (i : TypeInfo) (z : Value) (size bytes : Nat) (ht : P.underlying t = some (.slice e)) (hi : P.info? e = some i) (hz : i.zero = some z)
    (hsize : i.size = size) (hby : i.bytes = bytes) (hzs : z.cells.size = size) (hsz : 0 < size)
    (v : Value) (n : Nat) (xs : List Value) (hs : a.eval s = v) (ad : Option Addr) (m c : Nat) (hx : a.eval x = .slice ad m c) (news : List Value)
    (hown : w.ownsRow B e size v n xs) (hsrc : From w ad m c size news) (h1 : ∀ u ∈ news, u.oneCell' = true)
    (h63 : n + m ≤ maxLen) (hbytes : (n + m) * bytes ≤ 140737488355328) (hB : B ≤ w.heap.size)
    (h : ∀ v' w', w'.ownsRow B e size v' (n + m) (xs ++ news) → w.grownBy w' v.ownBlock → Moved w v v' → K (a.put o.dst v') w') :
    if Region.wanted o (yielded ops a.tmps) = true then Oper.wp P o a w K Q else E := by
  have hw : Region.wanted o (yielded ops a.tmps) = true := by simp [Region.wanted, hgd]
  rw [if_pos hw]
  obtain ⟨v', w', hr, h2, h3, h4⟩ := run_append_moved (P := P) w B t o.type e i z size bytes ht hi hz hsize hby hzs hsz v n xs hown ad m c news hsrc h1 h63 hbytes hB
  unfold Oper.wp
  simp [execOp, ho, resolve, invoke, builtin, hs, hx, hr, Result.andThen]
  exact h v' w' h2 h3 h4

/-- The mark of the list number i, and that of its tail. -/
def mk (i : Nat) : Int := (i : Int) % 256
def tm (i : Nat) : Int := ((i : Int) + 100) % 256

set_option maxHeartbeats 1000000 in
theorem tail_any (i : Nat) (w : World) (hi : i ≤ 1048576) :
    Calls Tryd.prog 21 #[.int .i64 i] w fun e w' => ∃ p, e = .returned p ∧ w'.ownsRow w.heap.size 5 1 p 70 (cells8 (List.replicate 70 (tm i))) ∧ Chg (fun _ => False) w w' := by
  obtain ⟨i0, hi0, hz0, hz1, hz2⟩ := info_parts info5
  have hw8 : IntKind.u8.wrap ((i : Int) + 100) = ((i : Int) + 100) % 256 := by simp [IntKind.wrap, IntKind.signed, IntKind.bits]
  unfold tm
  go_enter Tryd.func21, Tryd.ntmps21
  go_wp2_with fail
  go_loopw [3, 4] (fun b j wr => ∃ k : Nat, k ≤ 70 ∧ j = .int .i64 k ∧ wr.ownsRow w.heap.size 5 1 b k (cells8 (List.replicate k (((i : Int) + 100) % 256))) ∧ Chg (fun _ => False) w wr) (fun _ j _ => 70 - (intOf j).toNat)
  case atStart => exact ⟨0, by omega, rfl, World.ownsRow_nil _ _ _ _, Chg.refl _ _⟩
  case round =>
    obtain ⟨k, hk, rfl, hown, hc⟩ := hrel
    have hBr : w.heap.size ≤ wr.heap.size := hc.size
    obtain ⟨ba, bc, rfl⟩ := own_slice hown
    by_cases hlt : k < 70
    · go_wp2_with (at_builtin; refine wpList_append_moved rfl (.tmp 6) (.tmp 10) 24 rfl w.heap.size 5 i0 (.int .u8 0) 1 1 Tryd.underlying24 hi0 hz0 hz1 hz2 rfl (by decide) _ k (cells8 (List.replicate k (((i : Int) + 100) % 256))) rfl (some ⟨wr.heap.size, 0, none⟩) 1 1 rfl [.int .u8 (((i : Int) + 100) % 256)] (hown.alloc _) (row8_one wr (((i : Int) + 100) % 256) 5).src (oneCells [((i : Int) + 100) % 256]) (by unfold maxLen; omega) (by omega) (by simp; omega) ?_)
      intro v1 w1 hown1 hg1 hm1
      have hc1 : Chg (fun _ => False) w w1 := (hc.alloc _).grown hg1 (fun j e => .inr ((hown.lt j e).1))
      have HO : Hid (w1.ownsRow w.heap.size 5 1 v1 (k + 1) (cells8 (List.replicate (k + 1) (((i : Int) + 100) % 256)))) := by
        show w1.ownsRow _ _ _ _ _ _
        rw [List.replicate_succ']
        simpa [cells8] using hown1
      clear hown1 hg1 hm1 hown
      go_wp2
      go_roundw
      case rel => exact ⟨k + 1, by omega, by go_num, HO.out, hc1⟩
      case measure => simp [intOf]; omega
    · obtain rfl : k = 70 := by omega
      have HO : Hid (wr.ownsRow w.heap.size 5 1 (.slice ba 70 bc) 70 (cells8 (List.replicate 70 (((i : Int) + 100) % 256)))) := hown
      clear hown
      go_wp2
      go_ret
      exact ⟨_, rfl, HO.out, hc⟩

end Go.Proofs.YtkjjcdkobapedaaDoor
