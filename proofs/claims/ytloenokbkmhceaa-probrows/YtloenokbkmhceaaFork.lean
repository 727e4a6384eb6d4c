/- The contracts of Clone, Fork and the document's Fork; of no statement by themselves. -/
import Derived.Test.YtloenokbkmhceaaRefSet
import Derived.Great.BuildSlice
namespace Go.Proofs.Ytloenokbkmhceaa
open Go.RowKit
set_option linter.unusedVariables false

theorem own_from {w : World} {B : Nat} {e : TypeId} {ad : Option Addr} {c n : Nat} {xs : List Value} (h : w.ownsRow B e 1 (.slice ad n c) n xs) : From w ad n c 1 xs := by
  refine ⟨h.1, ?_⟩
  rcases h.2 with ⟨e0, e1⟩ | ⟨g, cap, cur, e0, _⟩
  · simp only [Value.slice.injEq] at e0
    exact .inl ⟨e0.1, e1, e0.2.2⟩
  · simp only [Value.slice.injEq, true_and] at e0
    obtain ⟨rfl, rfl⟩ := e0
    exact .inr ⟨_, rfl, fun j u hu => h.cells (g := g) rfl j u hu⟩
theorem From.keep {w w' : World} {ad : Option Addr} {m c size : Nat} {news : List Value} (h : From w ad m c size news) (hc : Chg (fun _ => False) w w') : From w' ad m c size news := by
  refine ⟨h.1, ?_⟩
  rcases h.2 with e | ⟨x, rfl, hx⟩
  · exact .inl e
  · exact .inr ⟨x, rfl, fun j u hu => cell_chg (hx j u hu) hc⟩
theorem own_empty (w : World) (t : TypeId) : (w.alloc (.cells #[] t)).ownsRow w.heap.size t 1 (.slice (some ⟨w.heap.size, 0, none⟩) 0 0) 0 [] :=
  ⟨rfl, .inr ⟨w.heap.size, 0, #[], rfl, Nat.le_refl _, heap_alloc_last w _, Nat.le_refl _, by unfold maxLen; omega, rfl, rfl⟩⟩

theorem step_append_moved {P : Program} {ops : Array Oper} {o : Oper} {a : Act} {w : World} {K : Act → World → Prop} {Q : Exit → Act → World → Prop} {E : Prop} (hgd : o.guard = none) (s x : Operand) (t : TypeId)
    (ho : o.op = .call { callee := .builtin .append, args := #[s, x], argTypes := #[t, t] })
    (B : Nat) (e : TypeId) (i : TypeInfo) (z : Value) (size bytes : Nat) (ht : P.underlying t = some (.slice e)) (hi : P.info? e = some i) (hz : i.zero = some z)
    (hsize : i.size = size) (hby : i.bytes = bytes) (hzs : z.cells.size = size) (hsz : 0 < size)
    (v : Value) (n : Nat) (xs : List Value) (hs : a.eval s = v) (ad : Option Addr) (m c : Nat) (hx : a.eval x = .slice ad m c) (news : List Value)
    (hown : w.ownsRow B e size v n xs) (hsrc : From w ad m c size news) (h1 : ∀ u ∈ news, u.oneCell' = true)
    (h63 : n + m ≤ maxLen) (hbytes : (n + m) * bytes ≤ 140737488355328) (hB : B ≤ w.heap.size)
    (h : ∀ v' w', w'.ownsRow B e size v' (n + m) (xs ++ news) → w.grownBy w' v.ownBlock → Moved w v v' → K (a.put o.dst v') w') :
    if Region.wanted o (yielded ops a.tmps) = true then Oper.wp P o a w K Q else E := by
  have hw : Region.wanted o (yielded ops a.tmps) = true := by simp [Region.wanted, hgd]
  rw [if_pos hw]
  obtain ⟨v', w', hr, h2, h3, h4⟩ := run_append_moved (P := P) w B t o.type e i z size bytes ht hi hz hsize hby hzs hsz v n xs hown ad m c news hsrc h1 h63 hbytes hB
  unfold Oper.wp
  simp [execOp, ho, resolve, invoke, builtin, hs, hx, hr, Result.andThen]
  exact h v' w' h2 h3 h4

theorem eq_nil_some (x : Addr) (n c : Nat) (w : World) : (binOp .eql 58 (.slice (some x) n c) (.slice none 0 0)).run Try.prog w = .ok (.bool false) w := by kernel_rfl
theorem eq_nil_none (w : World) : (binOp .eql 58 (.slice none 0 0) (.slice none 0 0)).run Try.prog w = .ok (.bool true) w := by kernel_rfl

set_option maxHeartbeats 1000000 in
set_option maxRecDepth 100000 in
theorem clone_any (B : Nat) (v : Value) (xs : List Int) (w : World) (h : w.ownsRow B 61 1 v xs.length (ins .u16 xs)) (hn : xs.length ≤ 1048576) :
    Calls Try.prog 34 #[v] w fun e w' => ∃ v', e = .returned v' ∧ w'.ownsRow w.heap.size 61 1 v' xs.length (ins .u16 xs) ∧ Chg (fun _ => False) w w' := by
  obtain ⟨i0, hi, hz0, hz1, hz2⟩ := info_parts infoU16
  have hone := ins_one .u16 xs
  rcases h.2 with ⟨rfl, e0⟩ | ⟨g, cap, cur, rfl, _⟩
  · have hx : xs = [] := List.eq_nil_of_length_eq_zero e0
    subst hx
    have heq := eq_nil_none w
    go_enter Try.func34, Try.ntmps34
    go_wp2
    go_ret
    exact ⟨_, rfl, World.ownsRow_nil _ _ _ _, Chg.refl _ _⟩
  · have hF := own_from h
    have c1 := chg_one w (.cells #[] 61)
    have hF1 := hF.keep c1
    have hE := own_empty w 61
    have hs : w.heap.size ≤ (w.alloc (.cells #[] 61)).heap.size := c1.size
    have HX : Hid (ins .u16 xs = ins .u16 xs) := rfl
    have heq := eq_nil_some ⟨g, 0, none⟩ xs.length cap w
    clear h hF
    go_enter Try.func34, Try.ntmps34
    go_wp2_with (at_builtin; refine wpList_append_moved rfl _ _ 58 rfl w.heap.size 61 i0 (.int .u16 0) 1 2 Try.underlying58 hi hz0 hz1 hz2 rfl (by decide) _ 0 [] rfl (some ⟨g, 0, none⟩) xs.length cap rfl (ins .u16 xs) hE hF1 hone (by unfold maxLen; omega) (by omega) hs ?_)
    intro v2 w2 ho hg hm
    have HC : Hid (Chg (fun _ => False) w w2) := c1.grown hg (fun k e => .inr (hE.lt k e).1)
    have HO : Hid (w2.ownsRow w.heap.size 61 1 v2 xs.length (ins .u16 xs)) := ho
    clear ho hg hm hE hF1 c1
    go_wp2
    go_ret
    exact ⟨_, rfl, HO.out, HC.out⟩

set_option maxHeartbeats 1000000 in
set_option maxRecDepth 100000 in
theorem fork_any (B a : Nat) (v : Value) (xs : List Int) (w : World) (h : St w B a v xs) (hn : xs.length ≤ 1048576) :
    Calls Try.prog 31 #[.pointer (some ⟨a, 0, none⟩)] w fun e w' => ∃ a' v', e = .returned (.pointer (some ⟨a', 0, none⟩)) ∧ w.heap.size ≤ a' ∧ St w' w.heap.size a' v' xs ∧ Chg (fun _ => False) w w' := by
  have hca := cell00 h.blk
  have hown := h.own
  clear h
  go_enter Try.func31, Try.ntmps31
  go_wp2_with fail
  refine (clone_any B v xs _ hown hn).mono ?_
  rintro e w1 ⟨v1, rfl, ho1, c1⟩
  have HO : Hid (w1.ownsRow w.heap.size 61 1 v1 xs.length (ins .u16 xs)) := ho1
  have HC : Hid (Chg (fun _ => False) w w1) := c1
  have hcell : (Value.agg #[v1]).cells = #[v1] := by
    rcases ho1.2 with ⟨rfl, _⟩ | ⟨g, cap, cur, rfl, _⟩ <;> rfl
  obtain ⟨ad, cap, rfl, _⟩ := own_any ho1
  clear ho1 c1 hca hown
  go_wp2
  go_ret
  have c2 := chg_one w1 (.cells #[.slice ad xs.length cap] 60)
  exact ⟨_, _, rfl, HC.out.size, ⟨HC.out.size, heap_alloc_last w1 _, ownsRow_keep HO.out c2 (fun _ _ f => f)⟩, chg_then HC.out c2⟩

set_option maxHeartbeats 2000000 in
set_option maxRecDepth 100000 in
theorem rfork_any (B r : Nat) (m : Int) (v : Value) (xs : List Int) (w : World) (h : Rt w B r m v xs) (hn : xs.length ≤ 1048576) :
    Calls Try.prog 32 #[.pointer (some ⟨r, 0, none⟩)] w fun e w' => ∃ r' v', e = .returned (.pointer (some ⟨r', 0, none⟩)) ∧ w.heap.size ≤ r' ∧ Rt w' w.heap.size r' m v' xs ∧ Chg (fun _ => False) w w' := by
  obtain ⟨i0, hi, hz0, hz1, hz2⟩ := info_parts infoI
  have hone := ins_one .i64 xs
  obtain ⟨ad, cap, rfl, _⟩ := own_any h.own
  have hc0 := cell0 h.blk
  have hc1 := cell1 h.blk
  have hrl := lt_of_blk h.blk
  have hF := own_from h.own
  have c1 := chg_one w (.cells #[.int .i64 m, .slice none 0 0] 53)
  have hb : (w.alloc (.cells #[.int .i64 m, .slice none 0 0] 53)).heap[w.heap.size]? = some (.cells #[.int .i64 m, .slice none 0 0] 53 (0, 0)) := heap_alloc_last w _
  clear h
  go_enter Try.func32, Try.ntmps32
  go_wp2_with fail
  have hF1 := hF.keep c1
  have hr1 := cell_chg hc1 c1
  clear hF hc0 hc1
  generalize (w.alloc (.cells #[.int .i64 m, .slice none 0 0] 53)) = w1 at *
  have hs1 := c1.size
  have hfl := lt_of_blk hb
  have HW : Hid (∃ f, f = w.heap.size) := ⟨_, rfl⟩
  obtain ⟨f, hf⟩ := HW.out
  rw [← hf] at hb hfl ⊢
  have hf1 : w1.cell? ⟨f, 1, none⟩ = some (.slice none 0 0) := cell1 hb
  have HFL : Hid (f = w.heap.size) := hf
  have HCW : Hid (Chg (fun _ => False) w w1) := c1
  clear hf c1 HW
  generalize hnn : xs.length = n at *
  have HN : Hid (xs.length = n) := hnn
  clear hnn
  refine wp_region_last (mk := fun u => #[_, _, _, _, _, _, _, _, _, _, u 10, u 11, u 12, u 13, u 14, u 15, u 16, u 17, u 18, u 19, u 20, u 21, _]) (F := fun slot vv ww => (look [(10, .val (.pointer (some ⟨f, 0, none⟩))), (11, .val (.pointer (some ⟨f, 0, none⟩))), (12, .val (.pointer (some ⟨f, 0, none⟩))), (13, .val (.pointer (some ⟨f, 1, none⟩))), (14, .val (.slice none 0 0)), (15, .val (.pointer (some ⟨r, 0, none⟩))), (16, .val (.pointer (some ⟨r, 0, none⟩))), (17, .val (.pointer (some ⟨r, 1, none⟩))), (18, .val (.slice ad n cap)), (19, .is (fun q wq => wq.ownsRow w1.heap.size 3 1 q n (ins .i64 xs))), (20, .val (.pointer (some ⟨f, 0, none⟩))), (21, .val (.pointer (some ⟨f, 1, none⟩)))] slot).holds vv ww) (fun _ => undef) rfl (by kernel_rfl) 12 _ rfl rfl (by kernel_rfl) ?_ (fun _ v w w' hc h => Fact.stays _ v w w' hc h) ?_ ?_
  · repeat (refine ⟨⟨_, rfl, fun _ _ => rfl⟩, ?_⟩)
    exact trivial
  · refine ⟨?_, ?_, ?_, ?_, ?_, ?_, ?_, ?_, ?_, ?_, ?_, ?_, trivial⟩
    · intro u w hc hd K hK -- 10
      clear hd
      go_simp
      exact hK.out (.pointer (some ⟨f, 0, none⟩)) w (Chg.refl _ _) rfl
    · intro u w hc hd K hK -- 11
      clear hd
      go_simp
      exact hK.out (.pointer (some ⟨f, 0, none⟩)) w (Chg.refl _ _) rfl
    · intro u w hc hd K hK -- 12
      have h11 : (Fact.val (.pointer (some ⟨f, 0, none⟩))).holds (u 11) w := hd.get 1 (by kernel_rfl)
      simp only [Fact.holds] at h11
      clear hd
      simp only [h11] at hK
      go_simp
      exact hK.out (.pointer (some ⟨f, 0, none⟩)) w (Chg.refl _ _) rfl
    · intro u w hc hd K hK -- 13
      have h12 : (Fact.val (.pointer (some ⟨f, 0, none⟩))).holds (u 12) w := hd.get 2 (by kernel_rfl)
      simp only [Fact.holds] at h12
      clear hd
      simp only [h12] at hK
      go_simp
      exact hK.out (.pointer (some ⟨f, 1, none⟩)) w (Chg.refl _ _) rfl
    · intro u w hc hd K hK -- 14
      have h13 : (Fact.val (.pointer (some ⟨f, 1, none⟩))).holds (u 13) w := hd.get 3 (by kernel_rfl)
      simp only [Fact.holds] at h13
      clear hd
      simp only [h13] at hK
      have hcell := cell_chg hf1 hc
      go_simp
      exact hK.out _ _ (Chg.refl _ _) rfl
    · intro u w hc hd K hK -- 15
      clear hd
      go_simp
      exact hK.out (.pointer (some ⟨r, 0, none⟩)) w (Chg.refl _ _) rfl
    · intro u w hc hd K hK -- 16
      have h15 : (Fact.val (.pointer (some ⟨r, 0, none⟩))).holds (u 15) w := hd.get 5 (by kernel_rfl)
      simp only [Fact.holds] at h15
      clear hd
      simp only [h15] at hK
      go_simp
      exact hK.out (.pointer (some ⟨r, 0, none⟩)) w (Chg.refl _ _) rfl
    · intro u w hc hd K hK -- 17
      have h16 : (Fact.val (.pointer (some ⟨r, 0, none⟩))).holds (u 16) w := hd.get 6 (by kernel_rfl)
      simp only [Fact.holds] at h16
      clear hd
      simp only [h16] at hK
      go_simp
      exact hK.out (.pointer (some ⟨r, 1, none⟩)) w (Chg.refl _ _) rfl
    · intro u w hc hd K hK -- 18
      have h17 : (Fact.val (.pointer (some ⟨r, 1, none⟩))).holds (u 17) w := hd.get 7 (by kernel_rfl)
      simp only [Fact.holds] at h17
      clear hd
      simp only [h17] at hK
      have hcell := cell_chg hr1 hc
      go_simp
      exact hK.out _ _ (Chg.refl _ _) rfl
    · intro u w hc hd K hK -- 19
      have h14 : (Fact.val (.slice none 0 0)).holds (u 14) w := hd.get 4 (by kernel_rfl)
      simp only [Fact.holds] at h14
      have h18 : (Fact.val (.slice ad n cap)).holds (u 18) w := hd.get 8 (by kernel_rfl)
      simp only [Fact.holds] at h18
      clear hd
      refine step_append_moved (a := ⟨_, []⟩) (by rfl) (.tmp 14) (.tmp 18) 51 (by rfl) w1.heap.size 3 i0 (.int .i64 0) 1 8 Try.underlying51 hi hz0 hz1 hz2 rfl (by decide) (.slice none 0 0) 0 [] (by exact h14) ad n cap (by exact h18) (ins .i64 xs) (World.ownsRow_nil _ _ _ _) (hF1.keep hc) hone (by unfold maxLen; omega) (by omega) hc.size ?_
      intro v2 w2 ho hg hm
      exact hK.out v2 w2 ((Chg.refl _ w).grown hg (fun k e => by cases e)) ⟨w2, by simpa using ho, Chg.refl _ _⟩
    · intro u w hc hd K hK -- 20
      have h10 : (Fact.val (.pointer (some ⟨f, 0, none⟩))).holds (u 10) w := hd.get 0 (by kernel_rfl)
      simp only [Fact.holds] at h10
      clear hd
      simp only [h10] at hK
      go_simp
      exact hK.out (.pointer (some ⟨f, 0, none⟩)) w (Chg.refl _ _) rfl
    · intro u w hc hd K hK -- 21
      have h20 : (Fact.val (.pointer (some ⟨f, 0, none⟩))).holds (u 20) w := hd.get 10 (by kernel_rfl)
      simp only [Fact.holds] at h20
      clear hd
      simp only [h20] at hK
      go_simp
      exact hK.out (.pointer (some ⟨f, 1, none⟩)) w (Chg.refl _ _) rfl
  · intro u w2 hc hA K hK
    have a19 := hA.at 19 (by kernel_rfl)
    have a21 := hA.at 21 (by kernel_rfl)
    clear hA
    obtain ⟨wq, o19, cq⟩ : (Fact.is (fun q wq => wq.ownsRow w1.heap.size 3 1 q n (ins .i64 xs))).holds (u 19) w2 := a19
    have e21 : u 21 = .pointer (some ⟨f, 1, none⟩) := a21
    have o20 := ownsRow_keep o19 cq (fun _ _ f => f)
    have hb2 := blk_keep hb hc (fun f => f)
    have hx2 := cell1 hb2
    have hz2 : w2.frozen? ⟨f, 1, none⟩ = false := by simp [World.frozen?, hb2]
    obtain ⟨ad2, cap2, e19, _⟩ := own_any o20
    rw [e19] at o20
    have HO : Hid (w2.ownsRow w1.heap.size 3 1 (.slice ad2 n cap2) n (ins .i64 xs)) := o20
    clear o19 o20 cq
    go_simp
    refine hK.out _ _ ?_
    have cs : Chg (fun k => k = f) w2 (w2.setCell ⟨f, 1, none⟩ (.slice ad2 n cap2)) := (Chg.refl (fun k => k = f) w2).setCell (p := ⟨f, 1, none⟩) (.inl rfl) _
    have HB : Hid ((w2.setCell ⟨f, 1, none⟩ (.slice ad2 n cap2)).heap[f]? = some (.cells #[.int .i64 m, .slice ad2 n cap2] 53 (0, 0))) := blk_set1 hb2
    have HO2 : Hid ((w2.setCell ⟨f, 1, none⟩ (.slice ad2 n cap2)).ownsRow w1.heap.size 3 1 (.slice ad2 n cap2) n (ins .i64 xs)) := ownsRow_keep HO.out cs (fun g e e2 => by
      have := (HO.out.lt g e).1
      omega)
    have HC2 : Hid (Chg (fun _ => False) w (w2.setCell ⟨f, 1, none⟩ (.slice ad2 n cap2))) := (chg_then HCW.out hc).trans cs (fun i e => .inr (by have := HFL.out; omega))
    clear hc hb2 hx2 hz2 cs hb hfl hf1
    generalize w2.setCell ⟨f, 1, none⟩ (.slice ad2 n cap2) = w4 at *
    go_simp
    go_wp2
    go_ret
    have e := HFL.out
    refine ⟨f, _, rfl, by omega, ⟨by omega, HB.out, ?_⟩, HC2.out⟩
    rw [HN.out]
    exact owns_base HO2.out hs1
end Go.Proofs.Ytloenokbkmhceaa
