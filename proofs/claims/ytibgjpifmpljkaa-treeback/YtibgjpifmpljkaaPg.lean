/- The contracts of the program's Get, GetBack and of Get's literal; all that is asked of its trees by a decoder's side, together; of no statement by themselves. -/
import Derived.Test.YtibgjpifmpljkaaPf
import Derived.Test.YtibgjpifmpljkaaBoundG
namespace Go.Proofs.Ytibgjpifmpljkaa
open Go.RowKit
set_option linter.unusedVariables false

variable {Dec : World → Nat → Nat → Value → List Nat → Rc.D → Prop}
set_option maxHeartbeats 4000000 in
set_option maxRecDepth 100000 in
theorem getbit_any (S : DecSpec Dec) (B B' a s b4 b5 : Nat) (j : Value) (i : Int) (v us : Value) (bs : List Nat) (d : Rc.D) (xs : List Int) (w : World) (hD : Dec w B a v bs d) (hO : OkD bs d) (hdig : Rc.Dig bs) (hbl : bs.length ≤ 140737488355328) (hB : B ≤ w.heap.size) (hS : St w B' s us xs) (hI : In31 xs)
    (h4 : w.heap[b4]? = some (.cells #[.pointer (some ⟨a, 0, none⟩)] 51 (0, 0))) (h5 : w.heap[b5]? = some (.cells #[.pointer (some ⟨s, 0, none⟩)] 23 (0, 0))) :
    Calls Try.prog 73 #[.int .i64 i, j, .pointer (some ⟨b4, 0, none⟩), .pointer (some ⟨b5, 0, none⟩)] w fun x w' =>
    (∃ e, decA bs ⟨false, i, 0, 0⟩ d xs = .error e ∧ 0 < e ∧ x = .returned (.tuple #[.int .i64 0, .int .i64 (e : Int)]) ∧ Dec w' B a v bs d ∧ St w' B' s us xs ∧ Chg (Fd a us) w w')
    ∨ (∃ b d' xs', decA bs ⟨false, i, 0, 0⟩ d xs = .ok (b, d', xs') ∧ x = .returned (.tuple #[.int .i64 (b : Int), .int .i64 0]) ∧ Dec w' B a v bs d' ∧ St w' B' s us xs' ∧ Chg (Fd a us) w w') := by
  have HBIT : Hid _ := S.bit B B' a s v us bs d xs i w hD hO hdig hbl hS hI hB
  have k4 := cell00 h4
  have k5 := cell00 h5
  clear hD hO hB hS hI h4 h5
  go_enter Try.func73, Try.ntmps73
  go_wp2_with fail
  refine Calls.mono HBIT.out ?_
  rintro x w1 (⟨e, h1, h2, rfl, h3⟩ | ⟨b, d', xs', h1, rfl, h3⟩)
  · have HR : Hid _ := (⟨h1, h2, h3⟩ : _ ∧ _ ∧ _)
    clear h1 h2 h3 k4 k5 HBIT
    go_wp2
    go_ret2
    exact .inl ⟨e, HR.out.1, HR.out.2.1, rfl, HR.out.2.2⟩
  · have HR : Hid _ := (⟨h1, h3⟩ : _ ∧ _)
    clear h1 h3 k4 k5 HBIT
    go_wp2
    go_ret2
    exact .inr ⟨b, d', xs', HR.out.1, rfl, HR.out.2⟩

/-- Both, and the two variables of Get's, meanwhile. -/
structure GetV (Dec : World → Nat → Nat → Value → List Nat → Rc.D → Prop) (w0 w : World) (B B' a s b4 b5 : Nat) (v us : Value) (bs : List Nat) (d : Rc.D) (xs : List Int) : Prop where
  dec : Dec w B a v bs d
  st : St w B' s us xs
  ok : OkD bs d
  inn : In31 xs
  h4 : w.heap[b4]? = some (.cells #[.pointer (some ⟨a, 0, none⟩)] 51 (0, 0))
  h5 : w.heap[b5]? = some (.cells #[.pointer (some ⟨s, 0, none⟩)] 23 (0, 0))
  chg : Chg (Fd a us) w0 w
def GetI (Dec : World → Nat → Nat → Value → List Nat → Rc.D → Prop) (w0 : World) (B B' a s b4 b5 P N : Nat) (v us : Value) (bs : List Nat) (d0 : Rc.D) (xs0 : List Int) (j m : Nat) (w : World) : Prop :=
  ∃ l d xs, GetV Dec w0 w B B' a s b4 b5 v us bs d xs ∧ l.length = N - j ∧ Bits01 l ∧ m = wayM 1 l ∧ getW bs P N 1 d0 xs0 = (l ++ (getW bs P j m d xs).1, (getW bs P j m d xs).2)
def GetE (Dec : World → Nat → Nat → Value → List Nat → Rc.D → Prop) (w0 : World) (B B' a s P N : Nat) (v us : Value) (bs : List Nat) (d0 : Rc.D) (xs0 : List Int) (e : Nat) (w : World) : Prop :=
  ∃ l d xs, getW bs P N 1 d0 xs0 = (l, d, xs, e) ∧ Dec w B a v bs d ∧ St w B' s us xs ∧ Chg (Fd a us) w0 w
theorem fd_ne (S : DecSpec Dec) {w : World} {B B' a s : Nat} {v us : Value} {bs : List Nat} {d : Rc.D} {xs : List Int} (hD : Dec w B a v bs d) (hS : St w B' s us xs) {k : Nat} {cs : Array Value} {t : TypeId} (hk : w.heap[k]? = some (.cells cs t (0, 0))) (h1 : t ≠ 91) (h3 : t ≠ 81) : ¬ Fd a us k := by
  rintro (f | f)
  · rw [f] at hk
    obtain ⟨c, hc⟩ := S.blk hD
    exact ty_ne hc hk (Ne.symm h1)
  · obtain ⟨c, hc⟩ := owns_blk hS.own f
    exact ty_ne hc hk (Ne.symm h3)
theorem get_step (S : DecSpec Dec) (w0 : World) (B B' a s b4 b5 P N : Nat) (v us : Value) (bs : List Nat) (d0 : Rc.D) (xs0 : List Int) (hdig : Rc.Dig bs) (hbl : bs.length ≤ 140737488355328) (hB : B ≤ w0.heap.size) (j m : Nat) (w : World) (hj : j < N) (h : GetI Dec w0 B B' a s b4 b5 P N v us bs d0 xs0 (j + 1) m w) :
    Calls Try.prog 73 (#[.int .i64 ((P : Int) + (m : Int)), .int .i64 (j : Int)] ++ #[.pointer (some ⟨b4, 0, none⟩), .pointer (some ⟨b5, 0, none⟩)]) w (BitSays (GetI Dec w0 B B' a s b4 b5 P N v us bs d0 xs0) (GetE Dec w0 B B' a s P N v us bs d0 xs0) j m) := by
  obtain ⟨l, d, xs, hw, hl, h01, hm, hg⟩ := h
  have hc := getbit_any S B B' a s b4 b5 (.int .i64 (j : Int)) ((P + m : Nat) : Int) v us bs d xs w hw.dec hw.ok hdig hbl (Nat.le_trans hB hw.chg.size) hw.st hw.inn hw.h4 hw.h5
  refine (show Calls Try.prog 73 #[.int .i64 ((P : Int) + (m : Int)), .int .i64 (j : Int), .pointer (some ⟨b4, 0, none⟩), .pointer (some ⟨b5, 0, none⟩)] w _ from (by rw [show (P : Int) + (m : Int) = ((P + m : Nat) : Int) by omega]; exact hc)).mono ?_
  rintro x w' (⟨e, h1, h2, rfl, h3, h4, h5⟩ | ⟨b, d', xs', h1, rfl, h3, h4, h5⟩)
  · refine .inl ⟨e, h2, rfl, l ++ [], d, xs, ?_, h3, h4, hw.chg.trans h5 (fun _ f => .inl f)⟩
    rw [hg, getW_err h1]
  · have hd := decA_ok hdig hw.ok hw.inn h1
    have hb : b ≤ 1 := by have := hd.2.1; simp only [Q.bits] at this; simpa using Nat.lt_succ_iff.1 this
    refine .inr ⟨b, hb, rfl, l ++ [b], d', xs', ⟨h3, h4, hd.2.2.1, hd.2.2.2.1, blk_keep hw.h4 h5 (fd_ne S hw.dec hw.st hw.h4 (by decide) (by decide)), blk_keep hw.h5 h5 (fd_ne S hw.dec hw.st hw.h5 (by decide) (by decide)), hw.chg.trans h5 (fun _ f => .inl f)⟩, ?_, ?_, ?_, ?_⟩
    · rw [List.length_append, List.length_singleton]; omega
    · intro y hy
      rcases List.mem_append.1 hy with h | h
      · exact h01 y h
      · rw [List.mem_singleton.1 h]; exact hb
    · rw [wayM_append, ← hm]
    · rw [hg, getW_ok h1, List.append_assoc, List.singleton_append]
theorem wayM_num : ∀ (l : List Nat) (m : Nat), wayM m l = numF m l
  | [], _ => rfl
  | b :: l, m => wayM_num l (2 * m + b)

set_option maxHeartbeats 4000000 in
set_option maxRecDepth 100000 in
theorem pget_any (S : DecSpec Dec) (B B' a s : Nat) (v us : Value) (bs : List Nat) (d : Rc.D) (xs : List Int) (p n : Int) (w0 : World) (h : Dec w0 B a v bs d) (hO : OkD bs d) (hdig : Rc.Dig bs) (hbl : bs.length ≤ 140737488355328) (hB : B ≤ w0.heap.size) (hS : St w0 B' s us xs) (hI : In31 xs) (hlen : xs.length ≤ 1048576) (hp : I64 p) (hn : I64 n) : Calls Try.prog 52 #[.pointer (some ⟨a, 0, none⟩), .pointer (some ⟨s, 0, none⟩), .int .i64 p, .int .i64 n] w0 fun z w' =>
    (¬ Stands xs.length p n ∧ z = .returned (.tuple #[.int .i64 0, .int .i64 7]) ∧ Chg (fun _ => False) w0 w')
    ∨ (Stands xs.length p n ∧ ∃ l d' xs' e, getW bs p.toNat n.toNat 1 d xs = (l, d', xs', e) ∧ Dec w' B a v bs d' ∧ St w' B' s us xs' ∧ Chg (Fd a us) w0 w' ∧ ((0 < e ∧ z = .returned (.tuple #[.int .i64 0, .int .i64 (e : Int)])) ∨ (e = 0 ∧ l.length = n.toNat ∧ Bits01 l ∧ z = .returned (.tuple #[.int .i64 ((numF 0 l : Nat) : Int), .int .i64 0])))) := by
  obtain ⟨g4, g5, gs, gc⟩ := twob w0 #[.pointer (some ⟨a, 0, none⟩)] #[.pointer (some ⟨s, 0, none⟩)] 51 23
  have HG : Hid (Chg (fun _ => False) w0 _) := gc
  have k5 := cell00 g5
  have HTH : Hid _ := pthere_any B' s p n us xs _ (hS.new gc) hlen hp hn
  have H4 : Hid _ := g4
  have H5 : Hid _ := g5
  have HD : Hid (Dec w0 B a v bs d) := h
  have HS : Hid (St w0 B' s us xs) := hS
  by_cases hf : Stands xs.length p n
  rotate_left
  · rw [decide_eq_false hf] at HTH
    have HF : Hid (¬ Stands xs.length p n) := hf
    clear hf h hO hB hS hI g4 g5 gs gc
    go_enter Try.func52, Try.ntmps52
    go_wp2_with fail
    refine Calls.mono HTH.out ?_
    rintro z w1 ⟨rfl, c1⟩
    have HC : Hid (Chg (fun _ => False) w0 w1) := chg_then HG.out c1
    clear c1 k5 HG HTH H4 H5 HD HS
    go_wp2
    go_ret2
    exact .inl ⟨HF.out, rfl, HC.out⟩
  rw [decide_eq_true hf] at HTH
  have HF : Hid (Stands xs.length p n) := hf
  obtain ⟨P, hP⟩ : ∃ P : Nat, (P : Int) = p := ⟨p.toNat, by have := hf.2.2.1; omega⟩
  obtain ⟨N, hN⟩ : ∃ N : Nat, (N : Int) = n := ⟨n.toNat, by have := hf.1; omega⟩
  subst hP hN
  have f2 : N ≤ 16 := by have := hf.2.1; omega
  have f1 : P + 2 ^ N ≤ xs.length := by
    have h4 := hf.2.2.2
    have e : ((2 ^ N : Nat) : Int) = (2 : Int) ^ N := by simp
    simp only [Int.toNat_natCast] at h4
    omega
  simp only [Int.toNat_natCast]
  have hP1 : P ≤ 1048576 := by have := Nat.le_add_right P (2 ^ N); omega
  have HSTEP : Hid (∀ (b4 b5 : Nat) (j m : Nat) (w : World), j < N → m < 2 ^ (N - j) → GetI Dec w0 B B' a s b4 b5 P N v us bs d xs (j + 1) m w → Calls Try.prog 73 (#[.int .i64 ((P : Int) + (m : Int)), .int .i64 (j : Int)] ++ #[.pointer (some ⟨b4, 0, none⟩), .pointer (some ⟨b5, 0, none⟩)]) w (BitSays (GetI Dec w0 B B' a s b4 b5 P N v us bs d xs) (GetE Dec w0 B B' a s P N v us bs d xs) j m)) := fun b4 b5 j m w h1 _ h2 => get_step S w0 B B' a s b4 b5 P N v us bs d xs hdig hbl hB j m w h1 h2
  have HOK : Hid (OkD bs d ∧ In31 xs) := ⟨hO, hI⟩
  have HN16 : Hid (N ≤ 16) := f2
  have hmf : ∀ (fn : Fn) (first cap : Array Value) (w : World), (Instr.makeFunc fn first cap).run Try.prog w = .ok (.func fn first cap) w := fun _ _ _ _ => rfl
  clear hf h hO hB hS hI g4 g5 gs gc f1 f2
  go_enter Try.func52, Try.ntmps52
  go_wp2_with fail
  refine Calls.mono HTH.out ?_
  rintro z w1 ⟨rfl, c1⟩
  have HW : Hid (GetV Dec w0 w1 B B' a s w0.heap.size (w0.heap.size + 1) v us bs d xs) := by
    have c := chg_then HG.out c1
    exact ⟨S.keep HD.out c (fun f => f) (fun _ _ f => f), HS.out.new c, HOK.out.1, HOK.out.2, blk_keep H4.out c1 (fun f => f), blk_keep H5.out c1 (fun f => f), c.mono (fun _ f => f.elim)⟩
  clear c1 k5 HG HTH H4 H5 HD HS HOK
  go_wp2_with fail
  refine Calls.mono (down_any 73 _ P N (GetI Dec w0 B B' a s w0.heap.size (w0.heap.size + 1) P N v us bs d xs) (GetE Dec w0 B B' a s P N v us bs d xs) HN16.out hP1 (by intro args w; simp) (HSTEP.out _ _) w1 ⟨[], d, xs, HW.out, by rw [Nat.sub_self]; rfl, fun _ h => (List.not_mem_nil h).elim, rfl, by simp⟩) ?_
  rintro x w2 (⟨e, he, rfl, hE⟩ | ⟨z, hz, rfl, hI⟩)
  · have HE : Hid _ := hE
    clear hE HW HSTEP
    go_wp2
    go_ret2
    obtain ⟨l, d', xs', h1, h2, h3, h4⟩ := HE.out
    exact .inr ⟨HF.out, l, d', xs', e, h1, h2, h3, h4, .inl ⟨he, rfl⟩⟩
  · have HI : Hid _ := hI
    clear hI HW HSTEP
    go_wp2
    go_ret2
    obtain ⟨l, d', xs', hw, hl, h01, hm, hg⟩ := HI.out
    rw [Nat.sub_zero] at hl
    rw [wayM_num, numF_acc, hl, Nat.one_mul] at hm
    have hz2 : z = numF 0 l := by omega
    subst hz2
    refine .inr ⟨HF.out, l, d', xs', 0, ?_, hw.dec, hw.st, hw.chg, .inr ⟨rfl, hl, h01, rfl⟩⟩
    rw [hg]
    simp [getW]

theorem numF_rev : ∀ (l : List Nat), numF 0 l.reverse = numB l
  | [] => rfl
  | b :: l => by rw [List.reverse_cons, numF_append, numF_rev l]; show _ = b + 2 * numB l; omega
theorem turned_num {l : List Nat} {N : Nat} (hl : l.length = N) (h01 : Bits01 l) : turnedN N (numF 0 l) = numB l := by
  have h1 : bitsOf true N (numF 0 l) = l.reverse := by
    have h2 := bits_num h01
    rw [hl] at h2
    rw [← h2]
    apply List.ext_getElem?
    intro i
    by_cases hi : i < N
    · rw [bitsOf_at hi, List.getElem?_reverse (by rw [bitsOf_len]; exact hi), bitsOf_len, bitsOf_at (by omega)]
      unfold bitAt
      rw [if_pos rfl, if_neg (by decide), show N - 1 - (N - 1 - i) = i by omega, h2]
    · rw [List.getElem?_eq_none (by rw [bitsOf_len]; omega), List.getElem?_eq_none (by rw [List.length_reverse, bitsOf_len]; omega)]
  unfold turnedN
  rw [h1, numF_rev]

set_option maxHeartbeats 4000000 in
set_option maxRecDepth 100000 in
theorem pgetb_any (S : DecSpec Dec) (B B' a s : Nat) (v us : Value) (bs : List Nat) (d : Rc.D) (xs : List Int) (p n : Int) (w0 : World) (h : Dec w0 B a v bs d) (hO : OkD bs d) (hdig : Rc.Dig bs) (hbl : bs.length ≤ 140737488355328) (hB : B ≤ w0.heap.size) (hS : St w0 B' s us xs) (hI : In31 xs) (hlen : xs.length ≤ 1048576) (hp : I64 p) (hn : I64 n) : Calls Try.prog 53 #[.pointer (some ⟨a, 0, none⟩), .pointer (some ⟨s, 0, none⟩), .int .i64 p, .int .i64 n] w0 fun z w' =>
    (¬ Stands xs.length p n ∧ z = .returned (.tuple #[.int .i64 0, .int .i64 7]) ∧ Chg (fun _ => False) w0 w')
    ∨ (Stands xs.length p n ∧ ∃ l d' xs' e, getW bs p.toNat n.toNat 1 d xs = (l, d', xs', e) ∧ Dec w' B a v bs d' ∧ St w' B' s us xs' ∧ Chg (Fd a us) w0 w' ∧ ((0 < e ∧ z = .returned (.tuple #[.int .i64 0, .int .i64 (e : Int)])) ∨ (e = 0 ∧ z = .returned (.tuple #[.int .i64 ((numB l : Nat) : Int), .int .i64 0])))) := by
  have HGET : Hid _ := pget_any S B B' a s v us bs d xs p n w0 h hO hdig hbl hB hS hI hlen hp hn
  clear h hO hB hS hI
  go_enter Try.func53, Try.ntmps53
  go_wp2_with fail
  refine Calls.mono HGET.out ?_
  clear HGET
  rintro z w1 (⟨hf, rfl, c1⟩ | ⟨hf, l, d', xs', e, h1, h2, h3, h4, h5⟩)
  · have HC : Hid (Chg (fun _ => False) w0 w1) := c1
    have HF : Hid (¬ Stands xs.length p n) := hf
    clear c1 hf
    go_wp2
    go_ret2
    exact .inl ⟨HF.out, rfl, HC.out⟩
  · have HF : Hid (Stands xs.length p n) := hf
    have HR : Hid (getW bs p.toNat n.toNat 1 d xs = (l, d', xs', e) ∧ Dec w1 B a v bs d' ∧ St w1 B' s us xs' ∧ Chg (Fd a us) w0 w1) := ⟨h1, h2, h3, h4⟩
    clear h1 h2 h3 h4
    rcases h5 with ⟨he, rfl⟩ | ⟨he, hl, h01, rfl⟩
    · have hd : decide ((e : Int) = 0) = false := by simp; omega
      have hd2 : ((e : Int) == 0) = false := by simp; omega
      clear hf
      go_wp2
      go_ret2
      exact .inr ⟨HF.out, l, d', xs', e, HR.out.1, HR.out.2.1, HR.out.2.2.1, HR.out.2.2.2, .inl ⟨he, rfl⟩⟩
    · obtain ⟨N, hN⟩ : ∃ N : Nat, (N : Int) = n := ⟨n.toNat, by have := hf.1; omega⟩
      have f2 : N ≤ 16 := by have := hf.2.1; omega
      have hl2 : l.length = N := by omega
      obtain ⟨V, hV⟩ : ∃ V, numF 0 l = V := ⟨_, rfl⟩
      obtain ⟨Z, hZ⟩ : ∃ Z, Z = numB l := ⟨_, rfl⟩
      have hVlt : V < 2 ^ N := by have := numF_le l 0 h01; rw [hl2] at this; omega
      have HT : Hid (∀ w, Calls Try.prog 41 #[.int .i64 (N : Int), .int .i64 (V : Int)] w fun e w' => e = .returned (.int .i64 (Z : Int)) ∧ Chg (fun _ => False) w w') := pturned_any N V Z f2 hVlt (by rw [hZ, ← hV, turned_num hl2 h01])
      have HZ : Hid (Z = numB l) := hZ
      have HE : Hid (e = 0) := he
      rw [hV]
      subst hN
      clear hf hl h01 he hl2 hV hZ hVlt
      go_wp2_with fail
      refine (HT.out _).mono ?_
      rintro z w2 ⟨rfl, c2⟩
      have HR2 : Hid (getW bs (p.toNat) ((N : Int).toNat) 1 d xs = (l, d', xs', e) ∧ Dec w2 B a v bs d' ∧ St w2 B' s us xs' ∧ Chg (Fd a us) w0 w2) := ⟨HR.out.1, S.keep HR.out.2.1 c2 (fun f => f) (fun _ _ f => f), HR.out.2.2.1.new c2, HR.out.2.2.2.trans c2 (fun _ f => f.elim)⟩
      clear c2 HR HT
      go_wp2
      go_ret2
      exact .inr ⟨HF.out, l, d', xs', e, HR2.out.1, HR2.out.2.1, HR2.out.2.2.1, HR2.out.2.2.2, .inr ⟨HE.out, by rw [← HZ.out]; rfl⟩⟩

/-- All that is asked of the program's trees by a decoder's side. -/
theorem tree_get (S : DecSpec Dec) : TreeGet Dec where
  get := fun back B B' a s v us bs d xs p n w h hO hdig hbl hB hS hI hl hp hn => by
    cases back
    · refine (pget_any S B B' a s v us bs d xs p n w h hO hdig hbl hB hS hI hl hp hn).mono ?_
      rintro z w' (h1 | ⟨h1, l, d', xs', e, h2, h3, h4, h5, h6⟩)
      · exact .inl h1
      · exact .inr ⟨h1, l, d', xs', e, h2, h3, h4, h5, h6.imp id (fun ⟨q1, _, _, q2⟩ => ⟨q1, q2⟩)⟩
    · exact pgetb_any S B B' a s v us bs d xs p n w h hO hdig hbl hB hS hI hl hp hn
end Go.Proofs.Ytibgjpifmpljkaa
