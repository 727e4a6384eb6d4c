/- slices.Grow of nothing and slices.Concat of lists of bytes; of no statement by themselves. -/
import Derived.Test.YtkncbanodpfccaaDoorCrr
import Derived.Deep.DeepCutAuto
namespace Go.Proofs.YtkncbanodpfccaaDoor
open Go.RowKit
open St12
set_option linter.unusedVariables false
set_option linter.unusedSimpArgs false
/-- Zeros behind nothing: room of one's own. -/
theorem run_append_zeros {P : Program} (w : World) (t xt ty e : TypeId) (i : TypeInfo) (z : Value) (ht : P.underlying t = some (.slice e)) (hx : P.underlying xt = some (.int .i64)) (hi : P.info? e = some i) (hz : i.zero = some z) (hs : i.size = 1) (hb : i.bytes = 1) (hzs : z.cells.size = 1)
    (n : Nat) (h0 : 0 < n) (hn : n ≤ 140737488355328) (B : Nat) (hB : B ≤ w.heap.size) :
    ∃ c w', (Builtin.append_ #[t, xt] ty #[.slice none 0 0, .int .i64 (n : Int)]).run P w = .ok (.slice (some ⟨w.heap.size, 0, none⟩) n c) w' ∧ n ≤ c ∧ w'.ownsRow B e 1 (.slice (some ⟨w.heap.size, 0, none⟩) 0 c) 0 [] ∧ Chg (fun _ => False) w w' := by
  have hn0 : n ≠ 0 := by omega
  have h63 : ¬ (9223372036854775807 < (n : Int)) := by omega
  have h48 : ¬ (281474976710656 < Builtin.nextslicecap n 0 * i.bytes) := by rw [nextslicecap_zero h0, hb]; omega
  have hw : IntKind.i64.wrap (n : Int) = (n : Int) := by simp [IntKind.wrap, IntKind.signed, IntKind.bits]; omega
  have hl0 : ¬ ((n : Int) < 0) := by omega
  have hl1 : ¬ (281474976710656 < (n : Int)) := by omega
  have ha : ∀ ww, (asIntOf (.int .i64 (n : Int))).run P ww = .ok (.i64, (n : Int)) ww := fun _ => rfl
  have hl2 : ¬ ((n : Int) ≤ 0) := by omega
  have hl3 : max (n : Int) 0 = (n : Int) := by omega
  have hl4 : ¬ (281474976710656 < n) := by omega
  have hge := grownCap_ge w n 0 e
  have hcm : grownCap w n 0 e ≤ maxLen := grownCap_le_maxLen w n 0 e (by simp only [maxLen]; omega)
  refine ⟨grownCap w n 0 e, w.drew.alloc (.cells (Builtin.zeroCells z.cells n ++ Builtin.zeroCells z.cells (grownCap w n 0 e - n)) e), ?_, hge, ⟨rfl, .inr ⟨w.heap.size, _, _, rfl, hB, heap_alloc_new w.drew _, by omega, hcm, ?_, rfl⟩⟩, (Chg.refl _ w).drew.alloc _⟩
  · simp [Builtin.append_, run_underlying ht, run_underlying hx, sizeOf, typeInfo, zeroValue, hi, hz, hs, hb, asInt, ha, hl2, hl3, hl4, hw, hl0, hl1, hn0, h63, Builtin.firstCells, Question.forced, newRow, grownCap, nextslicecap_zero h0]
  · simp only [Array.size_append, size_zeroCells, hzs]
    omega
theorem wpList_append_zeros {P : Program} {w : World} {ops : Array Oper} {rest : List Oper} {o : Oper} {a : Act} {Q : Exit → Act → World → Prop} (hgd : o.guard = none) (s x : Operand) (t xt : TypeId)
    (ho : o.op = .call { callee := .builtin .append, args := #[s, x], argTypes := #[t, xt] })
    (e : TypeId) (i : TypeInfo) (z : Value) (ht : P.underlying t = some (.slice e)) (hxt : P.underlying xt = some (.int .i64)) (hi : P.info? e = some i) (hz : i.zero = some z) (hs1 : i.size = 1) (hb : i.bytes = 1) (hzs : z.cells.size = 1)
    (n : Nat) (hs : a.eval s = .slice none 0 0) (hx : a.eval x = .int .i64 (n : Int)) (h0 : 0 < n) (hn : n ≤ 140737488355328) (B : Nat) (hB : B ≤ w.heap.size)
    (h : ∀ c w', n ≤ c → w'.ownsRow B e 1 (.slice (some ⟨w.heap.size, 0, none⟩) 0 c) 0 [] → Chg (fun _ => False) w w' → wpList P ops Q rest (a.put o.dst (.slice (some ⟨w.heap.size, 0, none⟩) n c)) w') : wpList P ops Q (o :: rest) a w := by
  refine wpList_plain hgd fun K hK => ?_
  obtain ⟨c, w', hr, h2, h3, h4⟩ := run_append_zeros (P := P) w t xt o.type e i z ht hxt hi hz hs1 hb hzs n h0 hn B hB
  unfold Oper.wp
  simp [execOp, ho, resolve, invoke, builtin, hs, hx, hr, Result.andThen]
  exact hK _ _ (h c w' h2 h3 h4)
theorem cut_none (w : World) : (Instr.slice 25 (.slice none 0 0) none (some (.int .i64 0)) none).run Tryd.prog w = .ok (.slice none 0 0) w := by kernel_rfl
theorem underInt : Tryd.prog.underlying 3 = some (.int .i64) := by kernel_rfl
set_option maxHeartbeats 4000000 in
set_option maxRecDepth 100000 in
theorem grow8_some (n : Nat) (h0 : 0 < n) (hn : n ≤ 140737488355328) (w : World) : Calls Tryd.prog 76 #[.slice none 0 0, .int .i64 (n : Int)] w fun e w' => ∃ v, e = .returned v ∧ ByO w' w.heap.size v [] ∧ Chg (fun _ => False) w w' := by
  obtain ⟨iu, hiu, hu0, hu1, hu2⟩ := info_parts info5u
  have hni : (n : Int) ≤ 140737488355328 := by omega
  have hn1 : (0 : Int) < (n : Int) := by omega
  have d1 : decide ((0 : Int) < (n : Int)) = true := decide_eq_true hn1
  have hc0 := cut_none
  have hcut : ∀ (c : Nat) ww, (Instr.slice 25 (.slice (some ⟨w.heap.size, 0, none⟩) n c) none (some (.int .i64 0)) none).run Tryd.prog ww = .ok (.slice (some ⟨w.heap.size, 0, none⟩) 0 c) ww := fun c ww => Vint.slice_to _ n c 0 (Nat.zero_le _) ww
  go_enter Tryd.func76, Tryd.ntmps76
  go_wp2_with (at_builtin; refine wpList_append_zeros rfl _ _ 25 3 rfl 5 iu (.int .u8 0) Tryd.underlying25 underInt hiu hu0 hu1 hu2 rfl n rfl rfl h0 hn w.heap.size (Nat.le_refl _) ?_)
  intro c w2 hnc ho hc
  have HO : Hid (w2.ownsRow w.heap.size 5 1 (.slice (some ⟨w.heap.size, 0, none⟩) 0 c) 0 []) := ho
  have HC : Hid (Chg (fun _ => False) w w2) := hc
  have hcu := hcut c
  clear ho hc hcut
  go_wp2
  go_ret
  exact ⟨_, rfl, HO.out, HC.out⟩
theorem grow8_none (w : World) : Calls Tryd.prog 76 #[.slice none 0 0, .int .i64 0] w fun e w' => ∃ v, e = .returned v ∧ ByO w' w.heap.size v [] ∧ Chg (fun _ => False) w w' := by
  go_enter Tryd.func76, Tryd.ntmps76
  go_wp2
  go_ret
  exact ⟨_, rfl, byO_nil _ _, Chg.refl _ _⟩
theorem grow8_any (n : Nat) (hn : n ≤ 140737488355328) (w : World) : Calls Tryd.prog 76 #[.slice none 0 0, .int .i64 (n : Int)] w fun e w' => ∃ v, e = .returned v ∧ ByO w' w.heap.size v [] ∧ Chg (fun _ => False) w w' := by
  by_cases h : n = 0
  · subst h; exact grow8_none w
  · exact grow8_some n (by omega) hn w
/-- A list of bytes as a list of lists tells it. -/
structure BsV where
  a : Option Addr
  n : Nat
  c : Nat
  bs : List Nat
def BsL (w : World) (ad : Option Addr) (l : List BsV) : Prop := ∀ (k : Nat) (q : BsV), l[k]? = some q → Row8 w q.a q.n q.c (nums q.bs) ∧ ∃ b off, ad = some ⟨b, off, none⟩ ∧ w.cell? ⟨b, off + k, none⟩ = some (.slice q.a q.n q.c)
def totB (l : List BsV) : Nat := (l.map BsV.n).sum
def catB (l : List BsV) : List Nat := l.flatMap BsV.bs
theorem totB_take {l : List BsV} {k : Nat} {q : BsV} (h : l[k]? = some q) : totB (l.take (k + 1)) = totB (l.take k) + q.n := by
  unfold totB
  rw [List.take_add_one, h]
  simp
theorem catB_take {l : List BsV} {k : Nat} {q : BsV} (h : l[k]? = some q) : catB (l.take (k + 1)) = catB (l.take k) ++ q.bs := by
  unfold catB
  rw [List.take_add_one, h]
  simp
theorem totB_le (l : List BsV) (k : Nat) : totB (l.take k) ≤ totB l := by
  have h : totB l = totB (l.take k) + totB (l.drop k) := by
    unfold totB
    rw [← List.sum_append_nat, ← List.map_append, List.take_append_drop]
  omega
theorem catB_len {w : World} {ad : Option Addr} {l : List BsV} (h : BsL w ad l) (k : Nat) : (catB (l.take k)).length = totB (l.take k) := by
  induction k with
  | zero => simp [catB, totB]
  | succ k ih =>
    cases hk : l[k]? with
    | none => rw [List.take_add_one, hk]; simpa using ih
    | some q =>
      rw [catB_take hk, totB_take hk, List.length_append, ih]
      have h9 := (h k q hk).1.1
      rw [nums_len] at h9
      omega
theorem BsL.new {w w' : World} {ad : Option Addr} {l : List BsV} (h : BsL w ad l) (hc : Chg (fun _ => False) w w') : BsL w' ad l := fun k q hk => by
  obtain ⟨h1, b, off, e, h2⟩ := h k q hk
  exact ⟨Bk.row8_chg h1 hc, b, off, e, cell_chg h2 hc⟩
set_option maxHeartbeats 8000000 in
set_option maxRecDepth 100000 in
theorem cat8_any (ad : Option Addr) (m c : Nat) (l : List BsV) (w : World) (h : BsL w ad l) (hl : l.length = m) (hm : m ≤ 4398046511104) (ht : totB l ≤ 140737488355328) : Calls Tryd.prog 61 #[.slice ad m c] w fun e w' => ∃ v, e = .returned v ∧ ByO w' w.heap.size v (catB l) ∧ Chg (fun _ => False) w w' := by
  obtain ⟨iu, hiu, hu0, hu1, hu2⟩ := info_parts info5u
  have HB : Hid (BsL w ad l) := h
  have HL : Hid (l.length = m) := hl
  have HT : Hid (totB l ≤ 140737488355328) := ht
  have hmi : (m : Int) ≤ 4398046511104 := by omega
  clear h hl ht
  go_enter Tryd.func61, Tryd.ntmps61
  go_wp2_with fail
  go_loopw [3, 11] (fun t i wr => ∃ k : Nat, k ≤ m ∧ t = .int .i64 (totB (l.take k) : Int) ∧ i = .int .i64 (k : Int) ∧ w = wr) (fun _ i _ => m - (intOf i).toNat)
  case atStart => exact ⟨0, by omega, by simp [totB], rfl, rfl⟩
  case round =>
    obtain ⟨k, hk, rfl, rfl, rfl⟩ := hrel
    by_cases hlt : k < m
    · have d1 : decide (k < m) = true := decide_eq_true hlt
      obtain ⟨q, hq⟩ : ∃ q, l[k]? = some q := ⟨_, List.getElem?_eq_getElem (by rw [HL.out]; exact hlt)⟩
      obtain ⟨hr, b, off, rfl, x0⟩ := HB.out k q hq
      have HS : Hid (totB (l.take (k + 1)) = totB (l.take k) + q.n) := totB_take hq
      have hb1 : (totB (l.take k) : Int) + (q.n : Int) ≤ 140737488355328 := by have h1 := totB_le l (k + 1); have h2 := HT.out; have h3 := HS.out; omega
      obtain ⟨T, hT⟩ : ∃ T, totB (l.take k) = T := ⟨_, rfl⟩
      rw [hT] at HS hb1
      rw [hT]
      have dn : decide ((T : Int) + (q.n : Int) < 0) = false := decide_eq_false (by omega)
      clear hr hq hT
      go_wp2
      go_roundw
      case rel => exact ⟨k + 1, by omega, by rw [HS.out]; push_cast; rfl, by go_num, by first | trivial | rfl⟩
      case measure => simp [intOf]; omega
    · have d1 : decide (k < m) = false := decide_eq_false hlt
      have e1 : l.take k = l := List.take_of_length_le (by rw [HL.out]; omega)
      rw [e1]
      obtain ⟨T, hT⟩ : ∃ T, totB l = T := ⟨_, rfl⟩
      rw [hT] at HT
      rw [hT]
      have HG : Hid _ := grow8_any T HT.out w
      have HTT : Hid (totB l = T) := hT
      have hTi : (T : Int) ≤ 140737488355328 := by have := HT.out; omega
      clear hT e1 hlt hk
      go_wp2_with fail
      refine Calls.mono HG.out ?_
      rintro z w1 ⟨v1, rfl, ho1, c1⟩
      have HS1 : Hid (ByO w1 w.heap.size v1 [] ∧ Chg (fun _ => False) w w1) := ⟨ho1, c1⟩
      clear ho1 c1 HG
      go_wp2_with fail
      go_loopw [6, 27] (fun u i wr => ∃ (j : Nat) (v : Value), j ≤ m ∧ v = u ∧ i = .int .i64 (j : Int) ∧ Hid (ByO wr w.heap.size v (catB (l.take j)) ∧ Chg (fun _ => False) w wr)) (fun _ i _ => m - (intOf i).toNat)
      case atStart => exact ⟨0, v1, by omega, rfl, rfl, HS1.out⟩
      case round =>
        obtain ⟨j, v, hj, rfl, rfl, HC⟩ := hrel
        by_cases hlt : j < m
        · have d1 : decide (j < m) = true := decide_eq_true hlt
          obtain ⟨q, hq⟩ : ∃ q, l[j]? = some q := ⟨_, List.getElem?_eq_getElem (by rw [HL.out]; exact hlt)⟩
          obtain ⟨hr, b, off, rfl, x0⟩ := HB.out j q hq
          replace x0 := cell_chg x0 HC.out.2
          have hsrc := (Bk.row8_chg hr HC.out.2).src
          have hlen := catB_len HB.out j
          have HS : Hid (catB (l.take (j + 1)) = catB (l.take j) ++ q.bs) := catB_take hq
          have hN : totB (l.take j) + q.n ≤ 140737488355328 := by have h1 := totB_le l (j + 1); rw [totB_take hq] at h1; have h2 := HT.out; have h3 := HTT.out; omega
          have hown := HC.out.1
          unfold ByO at hown
          rw [hlen] at hown
          obtain ⟨T0, hT0⟩ : ∃ T0, totB (l.take j) = T0 := ⟨_, rfl⟩
          rw [hT0] at hown hN
          have HC2 : Hid (Chg (fun _ => False) w wr) := HC.out.2
          have HLT : Hid (∀ g, v.ownBlock = some g → w.heap.size ≤ g) := fun g e => (hown.lt g e).1
          have hone := oneB q.bs
          have hsz := HC2.out.size
          clear hr hq hlen HC hT0
          go_upto_region 13 with fail
          go_wp2_with (at_builtin; go_loud (refine wpList_append_moved rfl _ _ 25 rfl w.heap.size 5 iu (.int .u8 0) 1 1 Tryd.underlying25 hiu hu0 hu1 hu2 rfl (by decide) _ T0 ((nums (catB (l.take j))).map (Value.int .u8)) rfl q.a q.n q.c rfl ((nums q.bs).map (Value.int .u8)) ?h1 ?h2 ?h3 ?m1 ?m2 ?m3 ?_))
          case h1 => exact hown
          case h2 => exact hsrc
          case h3 => exact hone
          case m1 => unfold maxLen; omega
          case m2 => omega
          case m3 => exact hsz
          intro v9 w9 ho9 hg9 hm9
          have HC9 : Hid (Chg (fun _ => False) w w9) := HC2.out.grown hg9 (fun g e => .inr (HLT.out g e))
          have hby : ByO w9 w.heap.size v9 (catB (l.take j) ++ q.bs) := byO_app ho9
          have HBY : Hid (ByO w9 w.heap.size v9 (catB (l.take (j + 1)))) := by show ByO _ _ _ _; rw [HS.out]; exact hby
          clear ho9 hg9 hm9 hown hsrc hone hsz hby
          go_wp2
          go_roundw
          case rel => exact ⟨j + 1, v9, by omega, rfl, by go_num, HBY.out, HC9.out⟩
          case measure => simp [intOf]; omega
        · have d1 : decide (j < m) = false := decide_eq_false hlt
          have e1 : l.take j = l := List.take_of_length_le (by rw [HL.out]; omega)
          rw [e1] at HC
          clear e1 hlt hj
          go_wp2
          go_ret
          exact ⟨_, rfl, HC.out.1, HC.out.2⟩
end Go.Proofs.YtkncbanodpfccaaDoor
