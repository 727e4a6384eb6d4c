/- The contracts of Clone, Fork and the document's Fork; of no statement by themselves. -/
import Derived.Test.YthhjllhcgdkjnaaRefSet
import Derived.Great.BuildSlice
namespace Go.Proofs.Ythhjllhcgdkjnaa
open Go.RowKit
set_option linter.unusedVariables false

theorem own_from {w : World} {B : Nat} {e : TypeId} {ad : Option Addr} {c n : Nat} {xs : List Value} (h : w.ownsRow B e 1 (.slice ad n c) n xs) : From w ad n c 1 xs := by
  refine ⟨h.1, ?_⟩
  rcases h.2 with ⟨e0, e1⟩ | ⟨g, cap, cur, e0, _⟩
  · simp only [Value.slice.injEq] at e0
    exact .inl ⟨e0.1, e1, e0.2.2⟩
  · simp only [Value.slice.injEq, true_and] at e0
    obtain ⟨rfl, rfl⟩ := e0
    exact .inr ⟨_, rfl, fun j u hu => h.cells (g := g) rfl j u hu⟩
theorem From.keep {w w' : World} {ad : Option Addr} {m c size : Nat} {news : List Value} (h : From w ad m c size news) (hc : Chg (fun _ => False) w w') : From w' ad m c size news := by
  refine ⟨h.1, ?_⟩
  rcases h.2 with e | ⟨x, rfl, hx⟩
  · exact .inl e
  · exact .inr ⟨x, rfl, fun j u hu => cell_chg (hx j u hu) hc⟩
theorem own_empty (w : World) (t : TypeId) : (w.alloc (.cells #[] t)).ownsRow w.heap.size t 1 (.slice (some ⟨w.heap.size, 0, none⟩) 0 0) 0 [] :=
  ⟨rfl, .inr ⟨w.heap.size, 0, #[], rfl, Nat.le_refl _, heap_alloc_last w _, Nat.le_refl _, by unfold maxLen; omega, rfl, rfl⟩⟩

theorem step_append_moved {P : Program} {ops : Array Oper} {o : Oper} {a : Act} {w : World} {K : Act → World → Prop} {Q : Exit → Act → World → Prop} {E : Prop} (hgd : o.guard = none) (s x : Operand) (t : TypeId)
    (ho : o.op = .call { callee := .builtin .append, args := #[s, x], argTypes := #[t, t] })
    (B : Nat) (e : TypeId) (i : TypeInfo) (z : Value) (size bytes : Nat) (ht : P.underlying t = some (.slice e)) (hi : P.info? e = some i) (hz : i.zero = some z)
    (hsize : i.size = size) (hby : i.bytes = bytes) (hzs : z.cells.size = size) (hsz : 0 < size)
    (v : Value) (n : Nat) (xs : List Value) (hs : a.eval s = v) (ad : Option Addr) (m c : Nat) (hx : a.eval x = .slice ad m c) (news : List Value)
    (hown : w.ownsRow B e size v n xs) (hsrc : From w ad m c size news) (h1 : ∀ u ∈ news, u.oneCell' = true)
    (h63 : n + m ≤ maxLen) (hbytes : (n + m) * bytes ≤ 140737488355328) (hB : B ≤ w.heap.size)
    (h : ∀ v' w', w'.ownsRow B e size v' (n + m) (xs ++ news) → w.grownBy w' v.ownBlock → Moved w v v' → K (a.put o.dst v') w') :
    if Region.wanted o (yielded ops a.tmps) = true then Oper.wp P o a w K Q else E := by
  have hw : Region.wanted o (yielded ops a.tmps) = true := by simp [Region.wanted, hgd]
  rw [if_pos hw]
  obtain ⟨v', w', hr, h2, h3, h4⟩ := run_append_moved (P := P) w B t o.type e i z size bytes ht hi hz hsize hby hzs hsz v n xs hown ad m c news hsrc h1 h63 hbytes hB
  unfold Oper.wp
  simp [execOp, ho, resolve, invoke, builtin, hs, hx, hr, Result.andThen]
  exact h v' w' h2 h3 h4

theorem eq_nil_some (x : Addr) (n c : Nat) (w : World) : (binOp .eql 86 (.slice (some x) n c) (.slice none 0 0)).run Try.prog w = .ok (.bool false) w := by kernel_rfl
theorem eq_nil_none (w : World) : (binOp .eql 86 (.slice none 0 0) (.slice none 0 0)).run Try.prog w = .ok (.bool true) w := by kernel_rfl

set_option maxHeartbeats 1000000 in
set_option maxRecDepth 100000 in
theorem clone_any (B : Nat) (v : Value) (xs : List Int) (w : World) (h : w.ownsRow B 85 1 v xs.length (ins .u16 xs)) (hn : xs.length ≤ 1048576) :
    Calls Try.prog 41 #[v] w fun e w' => ∃ v', e = .returned v' ∧ w'.ownsRow w.heap.size 85 1 v' xs.length (ins .u16 xs) ∧ Chg (fun _ => False) w w' := by
  obtain ⟨i0, hi, hz0, hz1, hz2⟩ := info_parts infoU16
  have hone := ins_one .u16 xs
  rcases h.2 with ⟨rfl, e0⟩ | ⟨g, cap, cur, rfl, _⟩
  · have hx : xs = [] := List.eq_nil_of_length_eq_zero e0
    subst hx
    have heq := eq_nil_none w
    go_enter Try.func41, Try.ntmps41
    go_wp2
    go_ret
    exact ⟨_, rfl, World.ownsRow_nil _ _ _ _, Chg.refl _ _⟩
  · have hF := own_from h
    have c1 := chg_one w (.cells #[] 85)
    have hF1 := hF.keep c1
    have hE := own_empty w 85
    have hs : w.heap.size ≤ (w.alloc (.cells #[] 85)).heap.size := c1.size
    have HX : Hid (ins .u16 xs = ins .u16 xs) := rfl
    have heq := eq_nil_some ⟨g, 0, none⟩ xs.length cap w
    clear h hF
    go_enter Try.func41, Try.ntmps41
    go_wp2_with (at_builtin; refine wpList_append_moved rfl _ _ 86 rfl w.heap.size 85 i0 (.int .u16 0) 1 2 Try.underlying86 hi hz0 hz1 hz2 rfl (by decide) _ 0 [] rfl (some ⟨g, 0, none⟩) xs.length cap rfl (ins .u16 xs) hE hF1 hone (by unfold maxLen; omega) (by omega) hs ?_)
    intro v2 w2 ho hg hm
    have HC : Hid (Chg (fun _ => False) w w2) := c1.grown hg (fun k e => .inr (hE.lt k e).1)
    have HO : Hid (w2.ownsRow w.heap.size 85 1 v2 xs.length (ins .u16 xs)) := ho
    clear ho hg hm hE hF1 c1
    go_wp2
    go_ret
    exact ⟨_, rfl, HO.out, HC.out⟩

set_option maxHeartbeats 1000000 in
set_option maxRecDepth 100000 in
theorem fork_any (B a : Nat) (v : Value) (xs : List Int) (w : World) (h : St w B a v xs) (hn : xs.length ≤ 1048576) :
    Calls Try.prog 20 #[.pointer (some ⟨a, 0, none⟩)] w fun e w' => ∃ a' v', e = .returned (.pointer (some ⟨a', 0, none⟩)) ∧ w.heap.size ≤ a' ∧ St w' w.heap.size a' v' xs ∧ Chg (fun _ => False) w w' := by
  have hca := cell00 h.blk
  have hown := h.own
  clear h
  go_enter Try.func20, Try.ntmps20
  go_wp2_with fail
  refine (clone_any B v xs _ hown hn).mono ?_
  rintro e w1 ⟨v1, rfl, ho1, c1⟩
  have HO : Hid (w1.ownsRow w.heap.size 85 1 v1 xs.length (ins .u16 xs)) := ho1
  have HC : Hid (Chg (fun _ => False) w w1) := c1
  have hcell : (Value.agg #[v1]).cells = #[v1] := by
    rcases ho1.2 with ⟨rfl, _⟩ | ⟨g, cap, cur, rfl, _⟩ <;> rfl
  obtain ⟨ad, cap, rfl, _⟩ := own_any ho1
  clear ho1 c1 hca hown
  go_wp2
  go_ret
  have c2 := chg_one w1 (.cells #[.slice ad xs.length cap] 88)
  exact ⟨_, _, rfl, HC.out.size, ⟨HC.out.size, heap_alloc_last w1 _, ownsRow_keep HO.out c2 (fun _ _ f => f)⟩, chg_then HC.out c2⟩

end Go.Proofs.Ythhjllhcgdkjnaa
