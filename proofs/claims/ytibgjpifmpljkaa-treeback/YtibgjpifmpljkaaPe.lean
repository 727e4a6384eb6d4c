/- The contracts of the program's Cost and of its literal; of no statement by themselves. -/
import Derived.Test.YtibgjpifmpljkaaPd
namespace Go.Proofs.Ytibgjpifmpljkaa
open Go.RowKit
set_option linter.unusedVariables false

set_option maxHeartbeats 4000000 in
set_option maxRecDepth 100000 in
theorem costbit_any (B' s b4 b7 b10 X j pm b : Nat) (us : Value) (xs : List Int) (c d : Int) (w0 : World) (hS : St w0 B' s us xs) (hI : In31 xs) (hpm : pm < xs.length)
    (h4 : w0.heap[b4]? = some (.cells #[.pointer (some ⟨s, 0, none⟩)] 23 (0, 0))) (h7 : w0.heap[b7]? = some (.cells #[.int .i64 (X : Int)] 3 (0, 0))) (h10 : w0.heap[b10]? = some (.cells #[.int .i64 c] 3 (0, 0))) (hne : b7 ≠ b10) (hX : X ≤ 65535) (hj : j ≤ 16) (hb : X / 2 ^ j % 2 = b) (hc0 : 0 ≤ c) (hc1 : c ≤ 2000) (hd : c + Prob.co (xs.getD pm 1024) (b : Int) = d) :
    Calls Try.prog 39 #[.int .i64 (pm : Int), .int .i64 (j : Int), .pointer (some ⟨b7, 0, none⟩), .pointer (some ⟨b4, 0, none⟩), .pointer (some ⟨b10, 0, none⟩)] w0 fun x w' => x = .returned (.tuple #[.int .i64 (b : Int), .int .i64 0]) ∧ w'.heap[b10]? = some (.cells #[.int .i64 d] 3 (0, 0)) ∧ Chg (fun z => z = b10) w0 w' := by
  have hp := hI.at pm hpm
  obtain ⟨p, hpx⟩ : ∃ p, xs[pm] = p := ⟨_, rfl⟩
  have hget : xs.getD pm 1024 = p := by rw [← hpx, List.getD_eq_getElem?_getD]; simp [hpm]
  rw [hpx] at hp
  obtain ⟨t, ht⟩ : ∃ t, Prob.co p (b : Int) = t := ⟨_, rfl⟩
  have hco := co_in hI pm b
  rw [hget, ht] at hco
  rw [hget, ht] at hd
  have HAT : Hid (Calls Try.prog 19 #[.pointer (some ⟨s, 0, none⟩), .int .i64 (pm : Int)] w0 fun e w' => e = .returned (.tuple #[.int .i64 p, .int .i64 0]) ∧ w0 = w') := by
    have h := at_in B' s us xs pm w0 hS hI.inn hpm
    rw [hpx] at h
    exact h
  have HCO : Hid (∀ w, Calls Try.prog 40 #[.int .i64 p, .int .i64 (b : Int)] w fun e w' => e = .returned (.int .i64 t) ∧ w = w') := fun w => by
    have h := cost_any p (b : Int) w (show I64 _ from ⟨by omega, by omega⟩)
    rw [ht] at h
    exact h
  have k4 := cell00 h4
  have k7 := cell00 h7
  have k10 := cell00 h10
  have H10 : Hid (w0.heap[b10]? = some (.cells #[.int .i64 c] 3 (0, 0))) := h10
  have hand : bits .and .i64 ((X : Int) / 2 ^ j) 1 = (b : Int) := by
    rw [and_1, ← hb]
    simp
  clear hS hI h4 h7 h10 hb hget hpx ht hp
  go_enter Try.func39, Try.ntmps39
  go_wp2_with fail
  refine Calls.mono HAT.out ?_
  rintro x w1 ⟨rfl, rfl⟩
  have hd2 : IntKind.i64.wrap (c + t) = d := by rw [hd]; simp [IntKind.wrap, IntKind.signed, IntKind.bits]; omega
  have HD : Hid (c + t = d) := hd
  clear hd k7 k4
  go_wp2_with fail
  refine wp_region_phaseQ (mk := fun u => #[_, _, _, _, _, _, _, _, _, _, _, _, _, _, _, _, _, _, _, _, _, _, u 22, u 23, u 24, u 25, u 26, _, _]) (G := lookG [(22, .int .i64 c), (23, .int .i64 p), (24, .int .i64 (b : Int)), (25, .int .i64 t), (26, .int .i64 d)]) (J := fun _ _ w => Chg (fun _ => False) w0 w) [] (fun i =>  0) ([]) (fun _ => undef) rfl (by kernel_rfl) 5 _ rfl rfl (by kernel_rfl) (by kernel_rfl) (by kernel_rfl) (by decide) ?_ ?_ ?_ (by kernel_rfl) ?_ ?_
  · repeat (refine ⟨fun _ _ => rfl, ?_⟩)
    exact trivial
  · exact fun q u u2 w _ h => h
  · exact (Chg.refl _ _).drew
  · refine ⟨?_, ?_, ?_, ?_, ?_, trivial⟩
    · show StepRQ _ _ _ _ _ _ _ _ _ -- 22
      unfold StepRQ
      intro q hq u w hj hd K hK
      clear hd
      have hcell := cell_chg k10 hj
      go_simp
      exact hK.out _ rfl
    · show StepRQ _ _ _ _ _ _ _ _ _ -- 23
      unfold StepRQ
      intro q hq u w hj hd K hK
      clear hd
      go_simp
      exact hK.out (.int .i64 p) rfl
    · show StepRQ _ _ _ _ _ _ _ _ _ -- 24
      unfold StepRQ
      intro q hq u w hj hd K hK
      clear hd
      go_simp
      exact hK.out (.int .i64 (b : Int)) rfl
    · show StepRQ _ _ _ _ _ _ _ _ _ -- 25
      unfold StepRQ
      intro q hq u w hj hd K hK
      have h23 : u 23 = .int .i64 p := hd.get 1 (by kernel_rfl)
      have h24 : u 24 = .int .i64 (b : Int) := hd.get 2 (by kernel_rfl)
      clear hd
      simp only [h23, h24] at hK
      go_simp
      go_at_call 40
      refine (HCO.out w).mono ?_
      rintro x w2 ⟨rfl, rfl⟩
      exact hK.out _ rfl
    · show StepRQ _ _ _ _ _ _ _ _ _ -- 26
      unfold StepRQ
      intro q hq u w hj hd K hK
      have h22 : u 22 = .int .i64 c := hd.get 0 (by kernel_rfl)
      have h25 : u 25 = .int .i64 t := hd.get 3 (by kernel_rfl)
      clear hd
      simp only [h22, h25] at hK
      go_simp
      first | exact hK.out (.int .i64 d) rfl | (rw [hd2]; exact hK.out (.int .i64 d) rfl)
  · intro u w hj hA K hK
    have e26 : u 26 = .int .i64 d := hA.at 26 (by kernel_rfl)
    clear hA
    have g10 := blk_keep H10.out hj (fun f => f)
    have c10 := cell00 g10
    have z10 : w.frozen? ⟨b10, 0, none⟩ = false := by simp [World.frozen?, g10]
    have HN : Hid ((w.setCell ⟨b10, 0, none⟩ (.int .i64 d)).heap[b10]? = some (.cells #[.int .i64 d] 3 (0, 0))) := blk_setk (l := [.int .i64 c]) g10 0 (.int .i64 d)
    have HC : Hid (Chg (fun z => z = b10) w0 (w.setCell ⟨b10, 0, none⟩ (.int .i64 d))) := Chg.setCell (S := fun z => z = b10) (hj.mono (fun _ f => f.elim)) (p := ⟨b10, 0, none⟩) (.inl rfl) _
    clear g10 hj
    go_simp
    refine hK.out _ _ ?_
    go_wp2
    go_ret2
    exact ⟨rfl, HN.out, HC.out⟩

/-- The row, and the three variables of Cost's, meanwhile. -/
structure CostW (w0 w : World) (B' s b4 b7 b10 X : Nat) (us : Value) (xs : List Int) (c : Int) : Prop where
  st : St w B' s us xs
  h4 : w.heap[b4]? = some (.cells #[.pointer (some ⟨s, 0, none⟩)] 23 (0, 0))
  h7 : w.heap[b7]? = some (.cells #[.int .i64 (X : Int)] 3 (0, 0))
  h10 : w.heap[b10]? = some (.cells #[.int .i64 c] 3 (0, 0))
  chg : Chg (fun _ => False) w0 w
def CostI (w0 : World) (B' s b4 b7 b10 X P N : Nat) (l : List Nat) (us : Value) (xs : List Int) (j m : Nat) (w : World) : Prop :=
  CostW w0 w B' s b4 b7 b10 X us xs (costW xs P 1 (l.take (N - j))) ∧ m = wayM 1 (l.take (N - j))
theorem cost_step (w0 : World) (B' s b4 b7 b10 X P N : Nat) (us : Value) (xs : List Int) (hI : In31 xs) (hn7 : b7 ≠ b10) (hn10 : w0.heap.size ≤ b10) (hN : N ≤ 16) (hX : X < 2 ^ N) (hP : P + 2 ^ N ≤ xs.length) (j m : Nat) (w : World) (hj : j < N) (h : CostI w0 B' s b4 b7 b10 X P N (bitsOf false N X) us xs (j + 1) m w) :
    Calls Try.prog 39 (#[.int .i64 ((P : Int) + (m : Int)), .int .i64 (j : Int)] ++ #[.pointer (some ⟨b7, 0, none⟩), .pointer (some ⟨b4, 0, none⟩), .pointer (some ⟨b10, 0, none⟩)]) w (BitSays (CostI w0 B' s b4 b7 b10 X P N (bitsOf false N X) us xs) (fun _ _ => False) j m) := by
  obtain ⟨hw, hm⟩ := h
  obtain ⟨l, hl⟩ : ∃ l, bitsOf false N X = l := ⟨_, rfl⟩
  have h01 : Bits01 l := by rw [← hl]; exact bitsOf_01 _ _ _
  have hlN : l.length = N := by rw [← hl]; exact bitsOf_len _ _ _
  obtain ⟨k, hk2⟩ : ∃ k, k = N - (j + 1) := ⟨_, rfl⟩
  have hkN : N - j = k + 1 := by omega
  have hb : l[k]? = some (X / 2 ^ j % 2) := by
    rw [← hl, bitsOf_at (by omega)]
    unfold bitAt
    rw [if_neg (by decide), show N - 1 - k = j by omega]
  obtain ⟨b, hb2⟩ : ∃ b, X / 2 ^ j % 2 = b := ⟨_, rfl⟩
  rw [hb2] at hb
  rw [hl, ← hk2] at hm hw
  have hq := wayQ_at P l 1 k b hb
  have hqk := (wayQ_ok1 hP h01 (by omega)) _ (List.mem_of_getElem? hq)
  rw [← hm] at hq hqk
  have hpm : P + m < xs.length := by
    unfold Q.ok at hqk
    rw [if_neg (fun f => by cases f)] at hqk
    simp only at hqk
    omega
  have hX65 : X ≤ 65535 := by have := pow16 hN; omega
  have hb1 : b ≤ 1 := by omega
  have hcw := costW_in hI P (l.take k) 1
  have hlk : (l.take k).length ≤ 16 := by rw [List.length_take]; omega
  have hnew : costW xs P 1 (l.take k) + Prob.co (xs.getD (P + m) 1024) (b : Int) = costW xs P 1 (l.take (k + 1)) := by rw [List.take_add_one, hb, Option.toList_some, costW_append, ← hm]
  have hc := costbit_any B' s b4 b7 b10 X j (P + m) b us xs _ _ w hw.st hI hpm hw.h4 hw.h7 hw.h10 hn7 hX65 (by omega) hb2 hcw.1 (by omega) hnew
  rw [show ((P + m : Nat) : Int) = (P : Int) + (m : Int) by omega] at hc
  refine hc.mono ?_
  rintro x w' ⟨rfl, h1, h2⟩
  refine .inr ⟨b, hb1, rfl, ?_, ?_⟩
  · rw [hl, hkN]
    refine ⟨hw.st.keep h2 (fun f => ?_) (fun g e f => ?_), blk_keep hw.h4 h2 (fun f => ?_), blk_keep hw.h7 h2 (fun f => hn7 f), h1, hw.chg.trans h2 (fun z f => .inr (by rw [f]; exact hn10))⟩
    · have h8 := hw.st.blk
      rw [f] at h8
      exact ty_ne h8 hw.h10 (by decide)
    · obtain ⟨c8, h8⟩ := owns_blk hw.st.own e
      rw [f] at h8
      exact ty_ne h8 hw.h10 (by decide)
    · have h8 := hw.h4
      rw [f] at h8
      exact ty_ne h8 hw.h10 (by decide)
  · rw [hl, hkN, List.take_add_one, hb, Option.toList_some, wayM_append, ← hm]
/-- Two variables are made. -/
theorem twob (w : World) (c1 c2 : Array Value) (t1 t2 : TypeId) : ((w.alloc (.cells c1 t1)).alloc (.cells c2 t2)).heap[w.heap.size]? = some (.cells c1 t1 (0, 0)) ∧ ((w.alloc (.cells c1 t1)).alloc (.cells c2 t2)).heap[w.heap.size + 1]? = some (.cells c2 t2 (0, 0)) ∧ ((w.alloc (.cells c1 t1)).alloc (.cells c2 t2)).heap.size = w.heap.size + 2 ∧ Chg (fun _ => False) w ((w.alloc (.cells c1 t1)).alloc (.cells c2 t2)) := by
  have h1 := heap_alloc_last w (.cells c1 t1)
  have h2 := heap_alloc_last (w.alloc (.cells c1 t1)) (.cells c2 t2)
  rw [size1] at h2
  have k1 := chg_one (w.alloc (.cells c1 t1)) (.cells c2 t2)
  exact ⟨blk_keep h1 k1 (fun f => f), h2, by rw [size1, size1], chg_then (chg_one w _) k1⟩
set_option maxHeartbeats 4000000 in
set_option maxRecDepth 100000 in
theorem pcost_any (B' s : Nat) (us : Value) (xs : List Int) (p n x : Int) (w0 : World) (hS : St w0 B' s us xs) (hI : In31 xs) (hlen : xs.length ≤ 1048576) (hp : I64 p) (hn : I64 n) (hx : I64 x) : Calls Try.prog 11 #[.pointer (some ⟨s, 0, none⟩), .int .i64 p, .int .i64 n, .int .i64 x] w0 fun z w' =>
    (¬ Fits xs.length p n x ∧ z = .returned (.tuple #[.int .i64 0, .int .i64 7]) ∧ Chg (fun _ => False) w0 w')
    ∨ (Fits xs.length p n x ∧ z = .returned (.tuple #[.int .i64 (costW xs p.toNat 1 (bitsOf false n.toNat x.toNat)), .int .i64 0]) ∧ Chg (fun _ => False) w0 w') := by
  obtain ⟨g4, g7, gs, gc⟩ := twob w0 #[.pointer (some ⟨s, 0, none⟩)] #[.int .i64 x] 23 3
  have HG : Hid (Chg (fun _ => False) w0 _) := gc
  have k4 := cell00 g4
  have k7 := cell00 g7
  have HFIT : Hid _ := pfits_any B' s p n x us xs _ (hS.new gc) hlen hp hn hx
  have H4 : Hid _ := g4
  have H7 : Hid _ := g7
  have HGS : Hid _ := gs
  have HS : Hid (St w0 B' s us xs) := hS
  by_cases hf : Fits xs.length p n x
  rotate_left
  · rw [decide_eq_false hf] at HFIT
    have HF : Hid (¬ Fits xs.length p n x) := hf
    clear hf hS hI g4 g7 gs gc
    go_enter Try.func11, Try.ntmps11
    go_wp2_with fail
    refine Calls.mono HFIT.out ?_
    rintro z w1 ⟨rfl, c1⟩
    have HC : Hid (Chg (fun _ => False) w0 w1) := chg_then HG.out c1
    clear c1 k4 k7 HG HFIT H4 H7 HS HGS
    go_wp2
    go_ret2
    exact .inl ⟨HF.out, rfl, HC.out⟩
  rw [decide_eq_true hf] at HFIT
  have HF : Hid (Fits xs.length p n x) := hf
  obtain ⟨f1, f2, f3⟩ := fits_bits hf
  obtain ⟨P, hP⟩ : ∃ P : Nat, (P : Int) = p := ⟨p.toNat, by have := hf.1.2.2.1; omega⟩
  obtain ⟨N, hN⟩ : ∃ N : Nat, (N : Int) = n := ⟨n.toNat, by have := hf.1.1; omega⟩
  obtain ⟨X, hX⟩ : ∃ X : Nat, (X : Int) = x := ⟨x.toNat, by have := hf.2.1; omega⟩
  subst hP hN hX
  simp only [Int.toNat_natCast] at f1 f2 f3 ⊢
  have hP1 : P ≤ 1048576 := by omega
  have HSTEP : Hid (∀ (b4 b7 b10 : Nat), b7 ≠ b10 → w0.heap.size ≤ b10 → ∀ (j m : Nat) (w : World), j < N → m < 2 ^ (N - j) → CostI w0 B' s b4 b7 b10 X P N (bitsOf false N X) us xs (j + 1) m w → Calls Try.prog 39 (#[.int .i64 ((P : Int) + (m : Int)), .int .i64 (j : Int)] ++ #[.pointer (some ⟨b7, 0, none⟩), .pointer (some ⟨b4, 0, none⟩), .pointer (some ⟨b10, 0, none⟩)]) w (BitSays (CostI w0 B' s b4 b7 b10 X P N (bitsOf false N X) us xs) (fun _ _ => False) j m)) := fun b4 b7 b10 hn7 hn10 j m w h1 _ h2 => cost_step w0 B' s b4 b7 b10 X P N us xs hI hn7 hn10 f2 f3 f1 j m w h1 h2
  have HN16 : Hid (N ≤ 16) := f2
  have HLN : Hid ((bitsOf false N X).length = N) := bitsOf_len _ _ _
  have hmf : ∀ (fn : Fn) (first cap : Array Value) (w : World), (Instr.makeFunc fn first cap).run Try.prog w = .ok (.func fn first cap) w := fun _ _ _ _ => rfl
  clear hf hS hI g4 g7 gs gc f1 f2 f3
  go_enter Try.func11, Try.ntmps11
  go_wp2_with fail
  refine Calls.mono HFIT.out ?_
  rintro z w1 ⟨rfl, c1⟩
  have HZ : Hid (w0.heap.size + 2 ≤ w1.heap.size) := by have := c1.size; rw [HGS.out] at this; exact this
  have HW : Hid (CostW w0 (w1.alloc (.cells #[.int .i64 0] 3)) B' s w0.heap.size (w0.heap.size + 1) w1.heap.size X us xs 0) := by
    have c := chg_then HG.out c1
    have c2 := chg_one w1 (.cells #[.int .i64 0] 3)
    exact ⟨HS.out.new (chg_then c c2), blk_keep (blk_keep H4.out c1 (fun f => f)) c2 (fun f => f), blk_keep (blk_keep H7.out c1 (fun f => f)) c2 (fun f => f), heap_alloc_last _ _, chg_then c c2⟩
  clear c1 k4 k7 HG HFIT H4 H7 HS HGS
  go_wp2_with fail
  refine Calls.mono (down_any 39 _ P N (CostI w0 B' s w0.heap.size (w0.heap.size + 1) w1.heap.size X P N (bitsOf false N X) us xs) (fun _ _ => False) HN16.out hP1 (by intro args w; simp) (HSTEP.out _ _ _ (by have := HZ.out; omega) (by have := HZ.out; omega)) _ ⟨by rw [Nat.sub_self]; exact HW.out, by rw [Nat.sub_self]; rfl⟩) ?_
  rintro x w2 (⟨_, _, _, f⟩ | ⟨z, hz, rfl, hI⟩)
  · exact f.elim
  obtain ⟨hw, _⟩ := hI
  rw [Nat.sub_zero, List.take_of_length_le (by rw [HLN.out]; exact Nat.le_refl _)] at hw
  obtain ⟨cc, hcc⟩ : ∃ cc, cc = costW xs P 1 (bitsOf false N X) := ⟨_, rfl⟩
  have HCC : Hid (cc = costW xs P 1 (bitsOf false N X)) := hcc
  rw [← hcc] at hw
  have HC : Hid (Chg (fun _ => False) w0 w2) := hw.chg
  have k10 := cell00 hw.h10
  clear hz HW HSTEP hw hcc
  go_wp2
  go_ret2
  exact .inr ⟨HF.out, by rw [← HCC.out]; rfl, HC.out⟩
end Go.Proofs.Ytibgjpifmpljkaa
