/- The document's own Flip: its contract; of no statement by itself. -/
import Derived.Test.YtmgjbkgooekihaaDoorFlip
namespace Go.Proofs.YtmgjbkgooekihaaDoor
open Go.RowKit

theorem bit_in {m L i : Nat} (h : Bits m L) (hi : m / 2 ^ i % 2 = 1) : i < L := by
  rcases Nat.lt_or_ge i L with e | e
  · exact e
  · have : m / 2 ^ i = 0 := Nat.div_eq_of_lt (Nat.lt_of_lt_of_le h.1 (Nat.pow_le_pow_right (by decide) e))
    rw [this] at hi
    cases hi

theorem bit_top {m L : Nat} (h : Bits m L) (hL : 0 < L) : m / 2 ^ (L - 1) % 2 = 1 := by
  have h1 := h.2 hL
  have h2 := h.1
  have hp := Nat.two_pow_pos (L - 1)
  have e : 2 ^ L = 2 * 2 ^ (L - 1) := by rw [Nat.mul_comm, ← Nat.pow_succ]; congr 1; omega
  have q1 : 1 ≤ m / 2 ^ (L - 1) := (Nat.le_div_iff_mul_le hp).2 (by omega)
  have q2 : m / 2 ^ (L - 1) < 2 := (Nat.div_lt_iff_lt_mul hp).2 (by omega)
  omega

set_option maxHeartbeats 4000000 in
theorem refflip_in (a : Option Addr) (n c : Nat) (xs : List Nat) (at_ m L : Nat) (w : World) (hx : Row8 w a n c (up xs)) (hb : Byt xs) (hn : n ≤ 140737488351232) (hL : Bits m L) (hl : L ≤ 32) (ha : at_ ≤ 8 * n) :
    Calls Tryd.prog 19 #[.slice a n c, .int .i64 at_, .int .u32 m] w fun e w' =>
      ((at_ + L ≤ 8 * n ∧ ∃ ad k, e = .returned (.tuple #[.slice ad n k, .int .i64 0]) ∧ Row8 w' ad n k (up (fl xs at_ m 32)) ∧ ∀ x, ad = some x → w.heap.size ≤ x.block) ∨ (¬ at_ + L ≤ 8 * n ∧ e = .returned (.tuple #[.slice none 0 0, .int .i64 7]))) ∧ Chg (fun _ => False) w w' := by
  obtain ⟨i0, hi, hz0, hz1, hz2⟩ := info_parts info5
  have hlen : xs.length = n := by rw [← up_length]; exact hx.1
  have HL : Hid (Bits m L) := hL
  have HLn : Hid (xs.length = n) := hlen
  clear hL hlen
  go_enter Tryd.func19, Tryd.ntmps19
  go_wp2_with (at_builtin; refine wpList_append_moved rfl _ _ 22 rfl w.heap.size 5 i0 (.int .u8 0) 1 1 Tryd.underlying22 hi hz0 hz1 hz2 rfl (by decide) _ 0 (cells8 []) rfl a n c rfl (cells8 (up xs)) (World.ownsRow_nil _ _ _ _) hx.src (oneCells (up xs)) (by unfold maxLen; omega) (by omega) (Nat.le_refl _) ?_)
  intro v1 w1 ho1 hg1 _
  have hc1 : Chg (fun _ => False) w w1 := (Chg.refl _ w).grown hg1 (fun k e => by cases e)
  rw [cells8_append, List.nil_append] at ho1
  obtain ⟨ad, ac, rfl, -, -⟩ := own_row8c ho1
  have hO : Hid (w1.ownsRow w.heap.size 5 1 (.slice ad n ac) n (cells8 (up xs))) := by show w1.ownsRow _ _ _ _ _ _; simpa using ho1
  clear hg1 hx ho1
  go_wp2_with fail
  go_loopw [9] (fun j wr => ∃ i : Nat, i ≤ 32 ∧ j = .int .i64 i ∧ (¬ at_ + L ≤ 8 * n → i < L) ∧ Hid (wr.ownsRow w.heap.size 5 1 (.slice ad n ac) n (cells8 (up (fl xs at_ m i)))) ∧ Chg (fun _ => False) w wr) (fun j _ => 32 - (intOf j).toNat)
  case atStart => exact ⟨0, by omega, rfl, fun h => by omega, hO, hc1⟩
  case round =>
    clear hO hc1
    obtain ⟨i, hi1, rfl, hiL, HO, hc⟩ := hrel
    by_cases hlt : i < 32
    · have hsh := shr32 m i
      have hbi := fun h => bit_in (i := i) HL.out h
      have hbt : i = L - 1 → 0 < L → m / 2 ^ i % 2 = 1 := fun e h => by rw [e]; exact bit_top HL.out h
      have hf1 := fun h => fl_one (xs := xs) (at_ := at_) (m := m) (i := i) h
      have hf2 := fun h => fl_flat (xs := xs) (at_ := at_) (m := m) (i := i) h
      generalize m / 2 ^ i = q at *
      by_cases ho : q % 2 = 1
      · have hiL2 := hbi ho
        have hq0 : ((q : Int) % 2 == 0) = false := beq_eq_false_iff_ne.2 (by omega)
        obtain ⟨K, hK⟩ : ∃ K : Nat, at_ + i = K := ⟨_, rfl⟩
        have hKi : (at_ : Int) + i = (K : Int) := by omega
        by_cases hin : K < 8 * n
        · obtain ⟨p, hp⟩ : ∃ p : Nat, K / 8 = p := ⟨_, rfl⟩
          obtain ⟨r, hr⟩ : ∃ r : Nat, K % 8 = r := ⟨_, rfl⟩
          have hp1 : (K : Int) / 8 = (p : Int) := by omega
          have hr1 : (K : Int) % 8 = (r : Int) := by omega
          have hpn : p < n := by omega
          have hr8 : r < 8 := by omega
          have hpl : p < (fl xs at_ m i).length := by rw [fl_length, HLn.out]; exact hpn
          have hw8 := wpow8 hr8
          have hy8 : 2 ^ r < 256 := Nat.pow_lt_pow_right (a := 2) (n := 8) (by decide) hr8
          obtain ⟨g, cap, hv, hBg, hcell, hfr, hset⟩ := own_set HO.out p hpn
          simp only [Value.slice.injEq, true_and] at hv
          obtain ⟨rfl, rfl⟩ := hv
          have hz : (fl xs at_ m i)[p] < 256 := fl_byt hb at_ m i _ (List.getElem_mem _)
          have hcl := hcell ((fl xs at_ m i)[p] : Nat) (by simp [up, hpl])
          have hxx := u8xor _ _ hz hy8
          have HF : Hid (fl xs at_ m (i + 1) = (fl xs at_ m i).set p ((fl xs at_ m i)[p] ^^^ 2 ^ r)) := by
            show _ = _
            rw [hf1 ho]
            subst hp hr
            rw [hK]
            exact flip_is _ K hpl
          have HO2 : Hid ((wr.setCell ⟨g, p, none⟩ (.int .u8 (((fl xs at_ m i)[p] ^^^ 2 ^ r : Nat) : Int))).ownsRow w.heap.size 5 1 (.slice (some ⟨g, 0, none⟩) n ac) n (cells8 (up (fl xs at_ m (i + 1))))) := by
            show World.ownsRow _ _ _ _ _ _ _
            rw [HF.out, ← up_set]
            exact hset _
          have HC2 : Hid (Chg (fun _ => False) w (wr.setCell ⟨g, p, none⟩ (.int .u8 (((fl xs at_ m i)[p] ^^^ 2 ^ r : Nat) : Int)))) := hc.setCell (.inr hBg) _
          have hnx : ¬ at_ + L ≤ 8 * n → i + 1 < L := fun h => by
            have := hiL h
            omega
          have HNX : Hid (¬ at_ + L ≤ 8 * n → i + 1 < L) := hnx
          clear hcell hset HO HF hK hp hr hf1 hf2 hbi hbt hiL hnx
          generalize (fl xs at_ m i)[p] ^^^ 2 ^ r = t at *
          generalize (fl xs at_ m i)[p] = z at *
          generalize 2 ^ r = y at *
          go_wp2_with fail
          go_region
          go_wp2
          go_roundw
          case rel => exact ⟨i + 1, by omega, by go_num, HNX.out, HO2, HC2.out.drew⟩
          case measure => simp [intOf]; omega
        · have HNO : Hid (¬ at_ + L ≤ 8 * n) := fun h => by omega
          clear hf1 hf2 hbi hbt hiL HO hK
          go_wp2
          go_ret2
          exact ⟨.inr ⟨HNO.out, rfl⟩, hc⟩
      · have hq0 : ((q : Int) % 2 == 0) = true := beq_iff_eq.2 (by omega)
        have HO2 : Hid (wr.ownsRow w.heap.size 5 1 (.slice ad n ac) n (cells8 (up (fl xs at_ m (i + 1))))) := by
          show World.ownsRow _ _ _ _ _ _ _
          rw [hf2 ho]
          exact HO.out
        have HNX : Hid (¬ at_ + L ≤ 8 * n → i + 1 < L) := fun h => by
          have h1 := hiL h
          rcases Nat.lt_or_ge (i + 1) L with e | e
          · exact e
          · exact absurd (hbt (by omega) (by omega)) ho
        clear hf1 hf2 hbi hbt hiL HO
        go_wp2
        go_roundw
        case rel => exact ⟨i + 1, by omega, by go_num, HNX.out, HO2, hc⟩
        case measure => simp [intOf]; omega
    · obtain rfl : i = 32 := by omega
      have HY : Hid (at_ + L ≤ 8 * n) := by
        rcases Nat.lt_or_ge (8 * n) (at_ + L) with e | e
        · have := hiL (by omega)
          omega
        · exact e
      obtain ⟨ad2, ac2, hv, hrow, -⟩ := own_row8c HO.out
      simp only [Value.slice.injEq, true_and] at hv
      obtain ⟨rfl, rfl⟩ := hv
      have HR : Hid (Row8 wr ad n ac (up (fl xs at_ m 32))) := hrow
      have HG : Hid (∀ x, ad = some x → w.heap.size ≤ x.block) := fun x e => by
        subst e
        rcases HO.out.2 with ⟨e2, _⟩ | ⟨g, cap, cur, e2, hB, _⟩
        · cases e2
        · simp only [Value.slice.injEq, Option.some.injEq, true_and] at e2
          rw [e2.1]
          exact hB
      clear HO hrow hiL
      go_wp2
      go_ret2
      exact ⟨.inl ⟨HY.out, ad, ac, rfl, HR.out, HG.out⟩, hc⟩

set_option maxHeartbeats 1000000 in
theorem refflip_out (a : Option Addr) (n c : Nat) (at_ : Int) (m : Nat) (w : World) (hn : n ≤ 140737488351232) (h : at_ < 0 ∨ 8 * (n : Int) < at_) :
    Calls Tryd.prog 19 #[.slice a n c, .int .i64 at_, .int .u32 m] w fun e w' => e = .returned (.tuple #[.slice none 0 0, .int .i64 7]) ∧ w = w' := by
  rcases h with h | h
  · go_enter Tryd.func19, Tryd.ntmps19
    go_wp2
    go_ret2
    exact ⟨rfl, rfl⟩
  · go_enter Tryd.func19, Tryd.ntmps19
    go_wp2
    go_ret2
    exact ⟨rfl, rfl⟩

theorem own_of_blk {w : World} {B q n : Nat} {ys : List Int} (h : w.heap[q]? = some (.cells (cells8 ys).toArray 5 (0, 0))) (hB : B ≤ q) (hn : ys.length = n) (hm : n ≤ 140737488355328) : w.ownsRow B 5 1 (.slice (some ⟨q, 0, none⟩) n n) n (cells8 ys) := by
  refine ⟨by simp [cells8, hn], .inr ⟨q, n, (cells8 ys).toArray, rfl, hB, h, Nat.le_refl _, by unfold maxLen; omega, by simp [cells8, hn], ?_⟩⟩
  rw [Nat.mul_one, List.take_of_length_le (by simp [cells8, hn])]

/-- 'append' on a list whose block is full: the list's block is as it was, and what is answered lies in new memory. -/
theorem run_append_full (w : World) (ty : TypeId) (g n : Nat) (ys : List Int) (hb : w.heap[g]? = some (.cells (cells8 ys).toArray 5 (0, 0))) (hn : ys.length = n) (ad : Option Addr) (m c : Nat) (zs : List Int) (hz : Row8 w ad m c zs) (hm : 0 < m) (hs : n + m ≤ 140737488355328) :
    ∃ v' w', (Builtin.append_ #[22, 22] ty #[.slice (some ⟨g, 0, none⟩) n n, .slice ad m c]).run Tryd.prog w = .ok v' w' ∧ w'.ownsRow w.heap.size 5 1 v' (n + m) (cells8 (ys ++ zs)) ∧ Chg (fun _ => False) w w' := by
  obtain ⟨i, hi, hz0, hz1, hz2⟩ := info_parts info5
  obtain ⟨x, rfl, hx⟩ : ∃ x, ad = some x ∧ ∀ j u, (zs.map (Value.int .u8))[j]? = some u → w.cell? (x.add j) = some u := by
    rcases hz.2 with ⟨_, e, _⟩ | e
    · omega
    · exact e
  have hown : w.ownsRow 0 5 1 (.slice (some ⟨g, 0, none⟩) n n) n (cells8 ys) := own_of_blk hb (Nat.zero_le _) hn (by omega)
  have hl : (zs.map (Value.int .u8)).length = m * 1 := by simp [hz.1]
  obtain ⟨v', w', hr, h2, h3, _⟩ := run_append_own (P := Tryd.prog) w 0 22 ty 5 i (.int .u8 0) 1 1 Tryd.underlying22 hi hz0 hz1 hz2 rfl (by decide) _ n _ hown x m c _ hl hx (oneCells zs) (by unfold maxLen; omega) (by omega) (Nat.zero_le _)
  have hr2 := run_append_grow (P := Tryd.prog) w 22 ty 5 i (.int .u8 0) Tryd.underlying22 hi hz0 ⟨g, 0, none⟩ n n (cells8 ys) (by simp [cells8, hn, hz1]) (hown.cells (g := g) rfl) x m c _ (by rw [hz1]; exact hl) hx (by omega) (by omega) (growslice_fits (by omega) (by rw [hz2]; omega))
  have hrr := hr
  rw [hr] at hr2
  simp only [Result.ok.injEq] at hr2
  obtain ⟨rfl, rfl⟩ := hr2
  refine ⟨_, _, hrr, ?_, ((Chg.refl _ w).drew).alloc _⟩
  refine ⟨by simpa [cells8] using h2.1, ?_⟩
  rcases h2.2 with ⟨e, _⟩ | ⟨g', cap, cur, e, _, rest⟩
  · cases e
  · refine .inr ⟨g', cap, cur, e, ?_, by simpa [cells8] using rest⟩
    simp only [Value.slice.injEq, Option.some.injEq, Addr.mk.injEq] at e
    omega

theorem wpList_append_full {w : World} {ops : Array Oper} {rest : List Oper} {o : Oper} {a : Act} {Q : Exit → Act → World → Prop} (hgd : o.guard = none) (s x : Operand)
    (ho : o.op = .call { callee := .builtin .append, args := #[s, x], argTypes := #[22, 22] })
    (g n : Nat) (ys : List Int) (hs : a.eval s = .slice (some ⟨g, 0, none⟩) n n) (ad : Option Addr) (m c : Nat) (hx : a.eval x = .slice ad m c) (zs : List Int)
    (hb : w.heap[g]? = some (.cells (cells8 ys).toArray 5 (0, 0))) (hn : ys.length = n) (hz : Row8 w ad m c zs) (hm : 0 < m) (hl : n + m ≤ 140737488355328)
    (h : ∀ v' w', w'.ownsRow w.heap.size 5 1 v' (n + m) (cells8 (ys ++ zs)) → Chg (fun _ => False) w w' → wpList Tryd.prog ops Q rest (a.put o.dst v') w') : wpList Tryd.prog ops Q (o :: rest) a w := by
  refine wpList_plain hgd fun K hK => ?_
  obtain ⟨v', w', hr, h2, h3⟩ := run_append_full w o.type g n ys hb hn ad m c zs hz hm hl
  unfold Oper.wp
  simp [execOp, ho, resolve, invoke, builtin, hs, hx, hr, Result.andThen]
  exact hK _ _ (h v' w' h2 h3)
end Go.Proofs.YtmgjbkgooekihaaDoor
