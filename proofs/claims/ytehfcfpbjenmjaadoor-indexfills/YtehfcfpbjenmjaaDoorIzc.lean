/- The landed index's numbers, an iterator; of no statement by itself. -/
import Derived.Test.YtehfcfpbjenmjaaDoorIzb
import Derived.Test.YtehfcfpbjenmjaaDoorBoundD
import Derived.LoopIn
namespace Go.Proofs.YtehfcfpbjenmjaaDoor
open Go.RowKit
set_option linter.unusedVariables false
set_option linter.unusedSimpArgs false
/-- What it hands on. -/
def numV (l : List Rec) : List Value := Value.int .u64 (l.length : Int) :: l.flatMap (fun q => [Value.int .u64 q.u, Value.int .u64 q.s])
theorem numV_tail : ∀ (l : List Rec), (l.flatMap (fun q => [Value.int .u64 q.u, Value.int .u64 q.s])).length = 2 * l.length
  | [] => rfl
  | q :: l => by
    rw [List.flatMap_cons, List.length_append, numV_tail l]
    simp
    omega
theorem numV_len (l : List Rec) : (numV l).length = 1 + 2 * l.length := by
  unfold numV
  rw [List.length_cons, numV_tail]
  omega
theorem numV_in : ∀ (l : List Rec) (k : Nat) (q : Rec), l[k]? = some q → (l.flatMap (fun q => [Value.int .u64 q.u, Value.int .u64 q.s]))[2 * k]? = some (.int .u64 q.u) ∧ (l.flatMap (fun q => [Value.int .u64 q.u, Value.int .u64 q.s]))[2 * k + 1]? = some (.int .u64 q.s)
  | [], k, p, h => by simp at h
  | q :: l, 0, p, h => by
    simp at h
    subst h
    exact ⟨rfl, rfl⟩
  | q :: l, k + 1, p, h => by
    obtain ⟨h1, h2⟩ := numV_in l k p (by simpa using h)
    have e : (q :: l).flatMap (fun q => [Value.int .u64 q.u, Value.int .u64 q.s]) = Value.int .u64 q.u :: Value.int .u64 q.s :: l.flatMap (fun q => [Value.int .u64 q.u, Value.int .u64 q.s]) := rfl
    rw [e]
    exact ⟨by rw [show 2 * (k + 1) = 2 * k + 1 + 1 by omega]; simpa using h1, by rw [show 2 * (k + 1) + 1 = 2 * k + 1 + 1 + 1 by omega]; simpa using h2⟩
theorem numV_0 (l : List Rec) : (numV l)[0]? = some (.int .u64 (l.length : Int)) := rfl
theorem numV_at {l : List Rec} {k : Nat} {q : Rec} (h : l[k]? = some q) : (numV l)[1 + 2 * k]? = some (.int .u64 q.u) ∧ (numV l)[1 + 2 * k + 1]? = some (.int .u64 q.s) := by
  obtain ⟨h1, h2⟩ := numV_in l k q h
  unfold numV
  exact ⟨by rw [show 1 + 2 * k = 2 * k + 1 by omega]; simpa using h1, by rw [show 1 + 2 * k + 1 = 2 * k + 1 + 1 by omega]; simpa using h2⟩
/-- The list as it lies behind the box b. -/
def NLive (b : Nat) (ad : Option Addr) (n c : Nat) (l : List Rec) (W : World) : Prop := W.heap[b]? = some (.cells #[.slice ad n c] 23 (0, 0)) ∧ RcF W ad n c l
theorem numbers_any (ad : Option Addr) (n c : Nat) (w : World) : Calls Tryd.prog 34 #[.slice ad n c] w fun e w' => e = .returned (.func (.func 60) #[] #[.pointer (some ⟨w.heap.size, 0, none⟩)]) ∧ w' = w.alloc (.cells #[.slice ad n c] 23) := by
  go_enter Tryd.func34, Tryd.ntmps34
  go_wp2
  go_ret
  exact ⟨rfl, rfl⟩
set_option maxHeartbeats 8000000 in
set_option maxRecDepth 100000 in
theorem num_go (b : Nat) (ad : Option Addr) (n c : Nat) (l : List Rec) (hn : n ≤ 140737488355328) (hp : ∀ q ∈ l, 0 ≤ q.u ∧ 0 ≤ q.s) : IterK Tryd.prog 60 #[.pointer (some ⟨b, 0, none⟩)] (numV l) (NLive b ad n c l) (NLive b ad n c l) := by
  intro ll J Jx W N0 hJt hJxt hmore hst hlv hY h0
  have HY : Hid _ := hY
  have HLV : Hid _ := hlv
  have HMO : Hid _ := hmore
  have HP : Hid (∀ q ∈ l, 0 ≤ q.u ∧ 0 ≤ q.s) := hp
  obtain ⟨hb0, hl0⟩ := hlv N0 0 W h0
  have HLN : Hid (l.length = n) := hl0.len
  have kb := one0 hb0
  have hni : (n : Int) ≤ 140737488355328 := by omega
  have ew : IntKind.u64.wrap (n : Int) = (n : Int) := w64 (by omega) (by omega)
  obtain ⟨hjl, hv⟩ := List.getElem?_eq_some_iff.1 (numV_0 l)
  obtain ⟨fn, tm, asg, bd, hy, hR⟩ := hY N0 0 W hjl h0
  rw [hv, HLN.out] at hy
  have HR : Hid _ := hR
  clear hY hlv hst h0 hJt hJxt hmore hb0 hl0 hp hR hv hjl
  show CallsIn Fence.wide 0 Tryd.prog 60 #[.func (.yield ll) #[] #[], .pointer (some ⟨b, 0, none⟩)] W _
  refine callsIn_of_wp Tryd.func60 rfl trivial ?_ rfl
  simp only [Tryd.ntmps60, List.size_toArray, List.length_cons, List.length_nil, Nat.reduceAdd, Nat.reduceSub, Array.replicate_succ, Array.replicate_zero, List.push_toArray, List.append_toArray, List.nil_append, List.cons_append]
  gi_wp2
  refine ⟨rfl, RoundIn.mono HR.out ?_⟩
  rintro e W3 ⟨(⟨rfl, hJ3⟩ | ⟨rfl, hJx3⟩), _⟩
  rotate_left
  · have HJx3 : Hid (Jx N0 1 W3) := hJx3
    clear hJx3 hy HR kb
    gi_wp2
    refine bodyPost_ret (results_none rfl _ _ _) rfl ?_
    exact ⟨⟨_, rfl⟩, N0, fun _ f => f, .inr ⟨1, by omega, by rw [numV_len]; omega, HJx3.out⟩⟩
  have HJ3 : Hid (J N0 (1 + 2 * 0) W3) := hJ3
  obtain ⟨hb0, _⟩ := HLV.out _ _ _ hJ3
  have kb := one0 hb0
  clear hJ3 hy HR hb0
  gi_wp2
  clear kb
  gi_loopw [13] (fun v wr => ∃ (k : Nat) (N : Nat → Prop), k ≤ n ∧ v = .int .i64 (k : Int) ∧ Hid (∀ z, N0 z → N z) ∧ Hid (J N (1 + 2 * k) wr)) (fun v _ => n - (intOf v).toNat)
  case atStart => exact ⟨0, N0, Nat.zero_le _, rfl, fun _ f => f, HJ3⟩
  case round =>
    clear HJ3
    obtain ⟨k, N, hk, rfl, HN, HJ⟩ := hrel
    have hki : (k : Int) ≤ (n : Int) := by omega
    by_cases hlt : k < n
    · have d1 : decide ((k : Int) < (n : Int)) = true := decide_eq_true (by omega)
      have d1' : decide (k < n) = true := decide_eq_true hlt
      obtain ⟨hbx, hlx⟩ := HLV.out _ _ _ HJ.out
      obtain ⟨q, bx, ox, hq, hI, rfl, x0, x1⟩ := hlx.at hlt
      have hqp := HP.out q (List.mem_of_getElem? hq)
      obtain ⟨at1, at2⟩ := numV_at hq
      obtain ⟨u, s⟩ := q
      simp only at x0 x1 hqp at1 at2
      have e1 : IntKind.u64.wrap u = u := w64 (by omega) (by have := hI.1.2; simp only at this; omega)
      have e2 : IntKind.u64.wrap s = s := w64 (by omega) (by have := hI.2.2; simp only at this; omega)
      obtain ⟨hj1, hv1⟩ := List.getElem?_eq_some_iff.1 at1
      obtain ⟨hj2, hv2⟩ := List.getElem?_eq_some_iff.1 at2
      have bA := heap_alloc_last wr (.cells #[.int .i64 u, .int .i64 s] 43)
      have hJ1 : J (fun z => N z ∨ z = wr.heap.size) (1 + 2 * k) (wr.alloc (.cells #[.int .i64 u, .int .i64 s] 43)) := HMO.out N (fun z => N z ∨ z = wr.heap.size) (1 + 2 * k) wr _ HJ.out (chg_one wr _) (fun z f => .inl f) (fun z f => f.imp id (fun e => by omega)) (fun z f => f.imp id (fun e => by rw [World.size_alloc]; omega))
      obtain ⟨fn, tm, asg, bd, hy, hR⟩ := HY.out _ (1 + 2 * k) _ hj1 hJ1
      rw [hv1] at hy
      have HR : Hid _ := hR
      have m0 : (wr.alloc (.cells #[.int .i64 u, .int .i64 s] 43)).cell? ⟨wr.heap.size, 0, none⟩ = some (.int .i64 u) := cell0 bA
      have HA : Hid ((wr.alloc (.cells #[.int .i64 u, .int .i64 s] 43)).heap[wr.heap.size]? = some (.cells #[.int .i64 u, .int .i64 s] 43 (0, 0))) := bA
      have HV2 : Hid (∃ h : 1 + 2 * k + 1 < (numV l).length, (numV l)[1 + 2 * k + 1] = .int .u64 s) := ⟨hj2, hv2⟩
      have HKL : Hid (1 + 2 * k + 1 < (numV l).length) := hj2
      clear hbx hlx hq hqp hI at1 at2 hj1 hv1 hj2 hv2 bA hJ1 hR HP
      gi_wp2
      refine ⟨rfl, RoundIn.mono HR.out ?_⟩
      rintro e W4 ⟨(⟨rfl, hJ4⟩ | ⟨rfl, hJx4⟩), hcalm⟩
      rotate_left
      · have HJx4 : Hid _ := hJx4
        clear hJx4 hy HR hcalm x0 x1 m0
        gi_wp2
        refine ⟨(fun _ h => nomatch h), ?_⟩
        go_at_K
        gi_wp2
        refine bodyPost_ret (results_none rfl _ _ _) rfl ?_
        exact ⟨⟨_, rfl⟩, _, fun z f => .inl (HN.out z f), .inr ⟨1 + 2 * k + 1, by omega, by have := HKL.out; omega, HJx4.out⟩⟩
      have hbk := hcalm.own (.inr rfl) HA.out
      have m1 : W4.cell? ⟨wr.heap.size, 1, none⟩ = some (.int .i64 s) := cell1 hbk
      obtain ⟨hj2, hv2⟩ := HV2.out
      obtain ⟨fn2, tm2, asg2, bd2, hy2, hR2⟩ := HY.out _ (1 + 2 * k + 1) _ hj2 hJ4
      rw [hv2] at hy2
      have HR2 : Hid _ := hR2
      clear hJ4 hy HR hcalm x0 x1 m0 hbk hv2 hj2 hR2 HV2 HA
      gi_wp2
      refine ⟨rfl, RoundIn.mono HR2.out ?_⟩
      rintro e W5 ⟨(⟨rfl, hJ5⟩ | ⟨rfl, hJx5⟩), _⟩
      · have HJ5 : Hid (J _ (1 + 2 * (k + 1)) W5) := hJ5
        clear hJ5 hy2 HR2 m1
        gi_wp2
        go_roundw
        case rel => exact ⟨k + 1, _, by omega, by go_num, fun z f => .inl (HN.out z f), HJ5⟩
        case measure => simp [intOf]; omega
      · have HJx5 : Hid _ := hJx5
        clear hJx5 hy2 HR2 m1
        gi_wp2
        refine bodyPost_ret (results_none rfl _ _ _) rfl ?_
        exact ⟨⟨_, rfl⟩, _, fun z f => .inl (HN.out z f), .inr ⟨1 + 2 * k + 1 + 1, by omega, by have := HKL.out; omega, HJx5.out⟩⟩
    · obtain rfl : k = n := by omega
      have HE : Hid (J N (numV l).length wr) := by
        show J _ _ _
        rw [numV_len, HLN.out]
        exact HJ.out
      gi_wp2
      go_end0
      exact ⟨⟨_, rfl⟩, N, HN.out, .inl HE.out⟩
end Go.Proofs.YtehfcfpbjenmjaaDoor
