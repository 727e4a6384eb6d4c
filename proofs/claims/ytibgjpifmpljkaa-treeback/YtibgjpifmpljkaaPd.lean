/- The contracts of the program's Put and of its literal; of no statement by themselves. -/
import Derived.Test.YtibgjpifmpljkaaPb
import Derived.Test.YtibgjpifmpljkaaPc
import Derived.Test.YtibgjpifmpljkaaDg
namespace Go.Proofs.Ytibgjpifmpljkaa
open Go.RowKit
set_option linter.unusedVariables false

set_option maxHeartbeats 4000000 in
set_option maxRecDepth 100000 in
theorem putbit_any (B B' a s b5 b6 b9 X j pm b : Nat) (v us : Value) (e : Rc.E) (xs : List Int) (w : World) (hE : Enc w B a v e) (hO : Rc.Ok e) (hk : e.k + 1 ≤ 140737488355328) (hB : B ≤ w.heap.size) (hS : St w B' s us xs) (hI : In31 xs) (hpm : pm < xs.length)
    (h5 : w.heap[b5]? = some (.cells #[.pointer (some ⟨a, 0, none⟩)] 27 (0, 0))) (h6 : w.heap[b6]? = some (.cells #[.pointer (some ⟨s, 0, none⟩)] 23 (0, 0))) (h9 : w.heap[b9]? = some (.cells #[.int .i64 (X : Int)] 3 (0, 0))) (hX : X ≤ 65535) (hj : j ≤ 16) (hb : X / 2 ^ j % 2 = b) :
    Calls Try.prog 42 #[.int .i64 (pm : Int), .int .i64 (j : Int), .pointer (some ⟨b9, 0, none⟩), .pointer (some ⟨b5, 0, none⟩), .pointer (some ⟨b6, 0, none⟩)] w fun x w' => x = .returned (.tuple #[.int .i64 (b : Int), .int .i64 0]) ∧ ∃ v', Enc w' B a v' (coded e xs[pm] (b : Int)) ∧ St w' B' s us (xs.set pm (Prob.nx xs[pm] (b : Int))) ∧ Chg (Fp a v us) w w' ∧ Moved w v v' := by
  have HBIT : Hid _ := bit_in B B' a s us v xs pm (b : Int) e w hS hI hpm hE hO hk hB
  have k5 := cell00 h5
  have k6 := cell00 h6
  have k9 := cell00 h9
  have hand : bits .and .i64 ((X : Int) / 2 ^ j) 1 = (b : Int) := by
    rw [and_1, ← hb]
    simp
  clear hE hO hk hB hS hI h5 h6 h9 hb
  go_enter Try.func42, Try.ntmps42
  go_wp2_with fail
  refine Calls.mono HBIT.out ?_
  rintro x w1 ⟨rfl, v', h1, h2, h3, h4⟩
  have HR : Hid (Enc w1 B a v' (coded e xs[pm] (b : Int)) ∧ St w1 B' s us (xs.set pm (Prob.nx xs[pm] (b : Int))) ∧ Chg (Fp a v us) w w1 ∧ Moved w v v') := ⟨h1, h2, h3, h4⟩
  clear h1 h2 h3 h4 k5 k6 k9 HBIT
  go_wp2
  go_ret2
  exact ⟨rfl, v', HR.out⟩

/-- Both, and the three variables of Put's, meanwhile. -/
structure PutW (w0 w : World) (B B' a s b5 b6 b9 X : Nat) (v0 v us : Value) (e : Rc.E) (xs : List Int) : Prop where
  enc : Enc w B a v e
  st : St w B' s us xs
  ok : Rc.Ok e
  inn : In31 xs
  h5 : w.heap[b5]? = some (.cells #[.pointer (some ⟨a, 0, none⟩)] 27 (0, 0))
  h6 : w.heap[b6]? = some (.cells #[.pointer (some ⟨s, 0, none⟩)] 23 (0, 0))
  h9 : w.heap[b9]? = some (.cells #[.int .i64 (X : Int)] 3 (0, 0))
  chg : Chg (Fp a v0 us) w0 w
  mov : Moved w0 v0 v
theorem fp_ne {w : World} {B B' a s : Nat} {v us : Value} {e : Rc.E} {xs : List Int} (hE : Enc w B a v e) (hS : St w B' s us xs) {k : Nat} {cs : Array Value} {t : TypeId} (hk : w.heap[k]? = some (.cells cs t (0, 0))) (h1 : t ≠ 75) (h2 : t ≠ 5) (h3 : t ≠ 81) : ¬ Fp a v us k := by
  obtain ⟨l, hl, _⟩ := hE
  rintro ((f | f) | f)
  · rw [f] at hk
    exact ty_ne hl.blk hk (Ne.symm h1)
  · obtain ⟨c, hc⟩ := owns_blk hl.own f
    exact ty_ne hc hk (Ne.symm h2)
  · obtain ⟨c, hc⟩ := owns_blk hS.own f
    exact ty_ne hc hk (Ne.symm h3)
theorem fp_moved {w0 : World} {a : Nat} {v0 v us : Value} (hm : Moved w0 v0 v) (z : Nat) (f : Fp a v us z) : Fp a v0 us z ∨ w0.heap.size ≤ z := by
  rcases f with f | f
  · rcases hm.foot a z f with h | h
    · exact .inl (.inl h)
    · exact .inr h
  · exact .inl (.inr f)
def PutI (w0 : World) (B B' a s b5 b6 b9 X P N : Nat) (l : List Nat) (v0 us : Value) (e0 : Rc.E) (xs0 : List Int) (j m : Nat) (w : World) : Prop :=
  ∃ v e xs, PutW w0 w B B' a s b5 b6 b9 X v0 v us e xs ∧ xs.length = xs0.length ∧ e.k ≤ e0.k + (N - j) ∧ m = wayM 1 (l.take (N - j)) ∧ encL (wayQ P 1 l) e0 xs0 = encL ((wayQ P 1 l).drop (N - j)) e xs
theorem put_step (w0 : World) (B B' a s b5 b6 b9 X P N : Nat) (v0 us : Value) (e0 : Rc.E) (xs0 : List Int) (hB : B ≤ w0.heap.size) (hk : e0.k + 17 ≤ 70368744177664) (hN : N ≤ 16) (hX : X < 2 ^ N) (hP : P + 2 ^ N ≤ xs0.length) (j m : Nat) (w : World) (hj : j < N) (h : PutI w0 B B' a s b5 b6 b9 X P N (bitsOf false N X) v0 us e0 xs0 (j + 1) m w) :
    Calls Try.prog 42 (#[.int .i64 ((P : Int) + (m : Int)), .int .i64 (j : Int)] ++ #[.pointer (some ⟨b9, 0, none⟩), .pointer (some ⟨b5, 0, none⟩), .pointer (some ⟨b6, 0, none⟩)]) w (BitSays (PutI w0 B B' a s b5 b6 b9 X P N (bitsOf false N X) v0 us e0 xs0) (fun _ _ => False) j m) := by
  obtain ⟨v, e, xs, hw, hxl, hek, hm, hen⟩ := h
  obtain ⟨l, hl⟩ : ∃ l, bitsOf false N X = l := ⟨_, rfl⟩
  have h01 : Bits01 l := by rw [← hl]; exact bitsOf_01 _ _ _
  have hlN : l.length = N := by rw [← hl]; exact bitsOf_len _ _ _
  obtain ⟨k, hk2⟩ : ∃ k, k = N - (j + 1) := ⟨_, rfl⟩
  have hkN : N - j = k + 1 := by omega
  have hb : l[k]? = some (X / 2 ^ j % 2) := by
    rw [← hl, bitsOf_at (by omega)]
    unfold bitAt
    rw [if_neg (by decide), show N - 1 - k = j by omega]
  obtain ⟨b, hb2⟩ : ∃ b, X / 2 ^ j % 2 = b := ⟨_, rfl⟩
  rw [hb2] at hb
  rw [hl, ← hk2] at hm hen
  rw [← hk2] at hek
  have hq := wayQ_at P l 1 k b hb
  have hqk := (wayQ_ok1 hP h01 (by omega)) _ (List.mem_of_getElem? hq)
  rw [← hm] at hq hqk
  have hpm : P + m < xs.length := by
    rw [hxl]
    unfold Q.ok at hqk
    rw [if_neg (fun f => by cases f)] at hqk
    simp only at hqk
    omega
  have hX65 : X ≤ 65535 := by have := pow16 hN; omega
  have hb1 : b ≤ 1 := by omega
  have hc := putbit_any B B' a s b5 b6 b9 X j (P + m) b v us e xs w hw.enc hw.ok (by omega) (Nat.le_trans hB hw.chg.size) hw.st hw.inn hpm hw.h5 hw.h6 hw.h9 hX65 (by omega) hb2
  rw [show ((P + m : Nat) : Int) = (P : Int) + (m : Int) by omega] at hc
  refine hc.mono ?_
  rintro x w' ⟨rfl, v', h1, h2, h3, h4⟩
  have hp := hw.inn.at (P + m) hpm
  refine .inr ⟨b, hb1, rfl, v', _, _, ⟨h1, h2, coded_ok hw.ok hp.1 hp.2, hw.inn.set _ _ (Prob.nx_lo hp.1 hp.2), blk_keep hw.h5 h3 (fp_ne hw.enc hw.st hw.h5 (by decide) (by decide) (by decide)), blk_keep hw.h6 h3 (fp_ne hw.enc hw.st hw.h6 (by decide) (by decide) (by decide)), blk_keep hw.h9 h3 (fp_ne hw.enc hw.st hw.h9 (by decide) (by decide) (by decide)), hw.chg.trans h3 (fun z f => fp_moved hw.mov z f), hw.mov.trans hw.chg.size h4⟩, by rw [List.length_set]; exact hxl, ?_, ?_, ?_⟩
  · have := coded_k (e := e) (p := xs[P + m]) (b := (b : Int)); omega
  · rw [hl, hkN, List.take_add_one, hb, Option.toList_some, wayM_append, ← hm]
  · have hEN := enc_bit (e := e) hpm hb1
    rw [hl, hkN, hen, encL_drop hq e xs (by rw [hxl]; exact hqk), hEN.1, hEN.2]

set_option maxHeartbeats 4000000 in
set_option maxRecDepth 100000 in
theorem pput_any (B B' a s : Nat) (v us : Value) (e : Rc.E) (xs : List Int) (p n x : Int) (w0 : World) (h : Enc w0 B a v e) (hO : Rc.Ok e) (hk : e.k + 17 ≤ 70368744177664) (hB : B ≤ w0.heap.size) (hS : St w0 B' s us xs) (hI : In31 xs) (hlen : xs.length ≤ 1048576) (hp : I64 p) (hn : I64 n) (hx : I64 x) : Calls Try.prog 14 #[.pointer (some ⟨a, 0, none⟩), .pointer (some ⟨s, 0, none⟩), .int .i64 p, .int .i64 n, .int .i64 x] w0 fun z w' =>
    (¬ Fits xs.length p n x ∧ z = .returned (.int .i64 7) ∧ Chg (fun _ => False) w0 w')
    ∨ (Fits xs.length p n x ∧ z = .returned (.int .i64 0) ∧ ∃ v', Enc w' B a v' (encL (numQ false p n x) e xs).1 ∧ St w' B' s us (encL (numQ false p n x) e xs).2 ∧ Chg (Fp a v us) w0 w' ∧ Moved w0 v v') := by
  obtain ⟨g5, g6, g9, gs, gc⟩ := three w0 #[.pointer (some ⟨a, 0, none⟩)] #[.pointer (some ⟨s, 0, none⟩)] #[.int .i64 x] 27 23 3
  have HG : Hid (Chg (fun _ => False) w0 _) := gc
  have k6 := cell00 g6
  have k9 := cell00 g9
  have HFIT : Hid _ := pfits_any B' s p n x us xs _ (hS.new gc) hlen hp hn hx
  have H5 : Hid _ := g5
  have H6 : Hid _ := g6
  have H9 : Hid _ := g9
  have HE : Hid (Enc w0 B a v e) := h
  have HS : Hid (St w0 B' s us xs) := hS
  by_cases hf : Fits xs.length p n x
  rotate_left
  · rw [decide_eq_false hf] at HFIT
    have HF : Hid (¬ Fits xs.length p n x) := hf
    clear hf h hO hk hB hS hI g5 g6 g9 gs gc
    go_enter Try.func14, Try.ntmps14
    go_wp2_with fail
    refine Calls.mono HFIT.out ?_
    rintro z w1 ⟨rfl, c1⟩
    have HC : Hid (Chg (fun _ => False) w0 w1) := chg_then HG.out c1
    clear c1 k6 k9 HG HFIT H5 H6 H9 HE HS
    go_wp2
    go_ret
    exact .inl ⟨HF.out, rfl, HC.out⟩
  rw [decide_eq_true hf] at HFIT
  have HF : Hid (Fits xs.length p n x) := hf
  obtain ⟨f1, f2, f3⟩ := fits_bits hf
  obtain ⟨P, hP⟩ : ∃ P : Nat, (P : Int) = p := ⟨p.toNat, by have := hf.1.2.2.1; omega⟩
  obtain ⟨N, hN⟩ : ∃ N : Nat, (N : Int) = n := ⟨n.toNat, by have := hf.1.1; omega⟩
  obtain ⟨X, hX⟩ : ∃ X : Nat, (X : Int) = x := ⟨x.toNat, by have := hf.2.1; omega⟩
  subst hP hN hX
  unfold numQ
  simp only [Int.toNat_natCast] at f1 f2 f3 ⊢
  have hP1 : P ≤ 1048576 := by omega
  have HSTEP : Hid (∀ (b5 b6 b9 : Nat) (j m : Nat) (w : World), j < N → m < 2 ^ (N - j) → PutI w0 B B' a s b5 b6 b9 X P N (bitsOf false N X) v us e xs (j + 1) m w → Calls Try.prog 42 (#[.int .i64 ((P : Int) + (m : Int)), .int .i64 (j : Int)] ++ #[.pointer (some ⟨b9, 0, none⟩), .pointer (some ⟨b5, 0, none⟩), .pointer (some ⟨b6, 0, none⟩)]) w (BitSays (PutI w0 B B' a s b5 b6 b9 X P N (bitsOf false N X) v us e xs) (fun _ _ => False) j m)) := fun b5 b6 b9 j m w h1 _ h2 => put_step w0 B B' a s b5 b6 b9 X P N v us e xs hB hk f2 f3 f1 j m w h1 h2
  have HOK : Hid (Rc.Ok e ∧ In31 xs) := ⟨hO, hI⟩
  have HN16 : Hid (N ≤ 16) := f2
  have HLN : Hid ((bitsOf false N X).length = N) := bitsOf_len _ _ _
  have hmf : ∀ (fn : Fn) (first cap : Array Value) (w : World), (Instr.makeFunc fn first cap).run Try.prog w = .ok (.func fn first cap) w := fun _ _ _ _ => rfl
  clear hf h hO hk hB hS hI g5 g6 g9 gs gc f1 f2 f3
  go_enter Try.func14, Try.ntmps14
  go_wp2_with fail
  refine Calls.mono HFIT.out ?_
  rintro z w1 ⟨rfl, c1⟩
  have HW : Hid (PutW w0 w1 B B' a s w0.heap.size (w0.heap.size + 1) (w0.heap.size + 1 + 1) X v v us e xs) := by
    have c := chg_then HG.out c1
    exact ⟨HE.out.new c, HS.out.new c, HOK.out.1, HOK.out.2, blk_keep H5.out c1 (fun f => f), blk_keep H6.out c1 (fun f => f), blk_keep H9.out c1 (fun f => f), c.mono (fun _ f => f.elim), Moved.refl _ _⟩
  clear c1 k6 k9 HG HFIT H5 H6 H9 HE HS HOK
  go_wp2_with fail
  refine Calls.mono (down_any 42 _ P N (PutI w0 B B' a s w0.heap.size (w0.heap.size + 1) (w0.heap.size + 1 + 1) X P N (bitsOf false N X) v us e xs) (fun _ _ => False) HN16.out hP1 (by intro args w; simp) (HSTEP.out _ _ _) w1 ⟨v, e, xs, HW.out, rfl, by omega, by rw [Nat.sub_self]; rfl, by rw [Nat.sub_self]; rfl⟩) ?_
  rintro x w2 (⟨_, _, _, f⟩ | ⟨z, hz, rfl, hI⟩)
  · exact f.elim
  have HI : Hid (PutI w0 B B' a s w0.heap.size (w0.heap.size + 1) (w0.heap.size + 1 + 1) X P N (bitsOf false N X) v us e xs 0 (z + 2 ^ N) w2) := hI
  clear hI hz HW HSTEP
  go_wp2
  go_ret
  obtain ⟨v', e', xs', hw, _, _, _, hen⟩ := HI.out
  rw [Nat.sub_zero, List.drop_eq_nil_of_le (by rw [wayQ_len, HLN.out]; exact Nat.le_refl _)] at hen
  refine .inr ⟨HF.out, rfl, v', ?_, ?_, hw.chg, hw.mov⟩
  · rw [hen]; exact hw.enc
  · rw [hen]; exact hw.st
end Go.Proofs.Ytibgjpifmpljkaa
