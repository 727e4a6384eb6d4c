/- The walk of TreeCheaper above what is asked of the program's trees; of no statement by itself. -/
import Derived.Test.YtibgjpifmpljkaaTs
namespace Go.Proofs.Ytibgjpifmpljkaa
open Go.RowKit
set_option linter.unusedVariables false

theorem way_k (p : Nat) : ∀ (l : List Nat) (m : Nat) (e : Rc.E) (xs : List Int), Bits01 l → (∀ q ∈ wayQ p m l, q.ok xs.length) → (encL (wayQ p m l) e xs).1.k ≤ e.k + l.length
  | [], m, e, xs, _, _ => Nat.le_refl _
  | b :: l, m, e, xs, h01, hq => by
    have hb : b ≤ 1 := h01 b (List.mem_cons_self ..)
    have hok := hq _ (List.mem_cons_self ..)
    have hj : p + m < xs.length := by
      unfold Q.ok at hok
      rw [if_neg (fun f => by cases f)] at hok
      simp only at hok
      omega
    show (encL (_ :: _) e xs).1.k ≤ _
    rw [encL, if_pos hok]
    have h1 := way_k p l (2 * m + b) (encE ⟨false, ((p + m : Nat) : Int), 0, b⟩ e xs) (encX ⟨false, ((p + m : Nat) : Int), 0, b⟩ xs) (fun x hx => h01 x (List.mem_cons_of_mem _ hx)) (fun q h => by rw [encX_len]; exact hq q (List.mem_cons_of_mem _ h))
    have h2 : (encE ⟨false, ((p + m : Nat) : Int), 0, b⟩ e xs).k ≤ e.k + 1 := by rw [(enc_bit hj hb).1]; exact coded_k
    simp only [List.length_cons]
    omega
theorem way_len (p : Nat) : ∀ (l : List Q) (e : Rc.E) (xs : List Int), (encL l e xs).2.length = xs.length
  | [], e, xs => rfl
  | q :: l, e, xs => by
    unfold encL
    split
    · rw [way_len p l, encX_len]
    · exact way_len p l e xs
/-- A number put again and again. -/
structure Chp (w0 wr : World) (Y a s : Nat) (v us : Value) (e : Rc.E) (xs : List Int) (l : List Nat) (i : Nat) (c : Int) : Prop where
  enc : Enc wr w0.heap.size a v e
  st : St wr w0.heap.size s us xs
  ok : Rc.Ok e
  inn : In31 xs
  len : xs.length = Y
  k : e.k ≤ 10 * i
  at_ : AtW xs 0 1 l (fP i)
  c : c = (l.map fun b => Prob.co (fP i b) (b : Int)).sum
  chg : Chg (fun _ => False) w0 wr

set_option maxHeartbeats 8000000 in
set_option maxRecDepth 100000 in
theorem cheaper_any (T : TreePut) (n x : Int) (back : Bool) (hn : I64 n) (hx : I64 x) (w0 : World) : Calls Try.prog 3 #[.int .i64 n, .int .i64 x, .bool back] w0 fun z w' => z = .returned (.bool true) ∧ Chg (fun _ => False) w0 w' := by
  by_cases hn0 : n < 0
  · go_enter Try.func3, Try.ntmps3
    go_wp2_with fail
    refine (fixed_any T _).mono ?_
    rintro z w1 ⟨rfl, c1⟩
    have HCE : Hid (Chg (fun _ => False) w0 w1) := c1
    clear c1
    go_wp2
    go_ret
    exact ⟨rfl, HCE.out⟩
  by_cases hn10 : 10 < n
  · have hd0 : decide (n < 0) = false := by simp; omega
    go_enter Try.func3, Try.ntmps3
    go_wp2_with fail
    refine (fixed_any T _).mono ?_
    rintro z w1 ⟨rfl, c1⟩
    have HCE : Hid (Chg (fun _ => False) w0 w1) := c1
    clear c1
    go_wp2
    go_ret
    exact ⟨rfl, HCE.out⟩
  by_cases hx0 : x < 0
  · have hd0 : decide (n < 0) = false := by simp; omega
    have hd1 : decide (10 < n) = false := by simp; omega
    go_enter Try.func3, Try.ntmps3
    go_wp2_with fail
    refine (fixed_any T _).mono ?_
    rintro z w1 ⟨rfl, c1⟩
    have HCE : Hid (Chg (fun _ => False) w0 w1) := c1
    clear c1
    go_wp2
    go_ret
    exact ⟨rfl, HCE.out⟩
  obtain ⟨N, rfl⟩ := Int.eq_ofNat_of_zero_le (show 0 ≤ n by omega)
  obtain ⟨X, rfl⟩ := Int.eq_ofNat_of_zero_le (show 0 ≤ x by omega)
  obtain ⟨Y, hY⟩ : ∃ Y : Nat, Y = 2 ^ N := ⟨_, rfl⟩
  have HYY : Hid (Y = 2 ^ N) := hY
  have hN10 : N ≤ 10 := by omega
  have HY10 : Hid (Y ≤ 1024) := by show Y ≤ 1024; rw [hY]; exact Nat.pow_le_pow_right (n := 2) (by omega) hN10
  have hY3 : (Y : Int) ≤ 1024 := by have := HY10.out; omega
  have hsh : (2 : Int) ^ N = (Y : Int) := by rw [hY]; simp
  have hd0 : decide ((N : Int) < 0) = false := by simp
  have hd1 : decide ((10 : Int) < (N : Int)) = false := by simp; omega
  have hd2 : decide ((X : Int) < 0) = false := by simp
  clear hY hn hx hn0 hn10 hx0
  by_cases hxy : (Y : Int) ≤ (X : Int)
  · have hd3 : decide ((Y : Int) ≤ (X : Int)) = true := by simp; omega
    go_enter Try.func3, Try.ntmps3
    go_wp2_with fail
    refine (fixed_any T _).mono ?_
    rintro z w1 ⟨rfl, c1⟩
    have HCE : Hid (Chg (fun _ => False) w0 w1) := c1
    clear c1
    go_wp2
    go_ret
    exact ⟨rfl, HCE.out⟩
  have hd3 : decide ((Y : Int) ≤ (X : Int)) = false := by simp; omega
  have hxlt : (X : Int) < (Y : Int) := by omega
  have HFIT : Hid (Fits Y 0 (N : Int) (X : Int)) := ⟨⟨by omega, by omega, by omega, by rw [Int.toNat_natCast, hsh]; omega⟩, by omega, by rw [Int.toNat_natCast, hsh]; omega⟩
  obtain ⟨l, hl⟩ : ∃ l, bitsOf back N X = l := ⟨_, rfl⟩
  have HL : Hid (bitsOf back N X = l) := hl
  have HB01 : Hid (Bits01 l) := by show Bits01 l; rw [← hl]; exact bitsOf_01 _ _ _
  have HLN : Hid (l.length = N) := by show _ = _; rw [← hl]; exact bitsOf_len _ _ _
  have HOKQ : Hid (∀ q ∈ wayQ 0 1 l, q.ok Y) := wayQ_ok1 (n := N) (by have := HYY.out; omega) HB01.out (by have := HLN.out; omega)
  clear hl
  go_enter Try.func3, Try.ntmps3
  go_wp2_with fail
  refine (new_in Y _ (by have := HY10.out; omega)).mono ?_
  rintro z w1 ⟨s, us, rfl, hs, hS1, c1⟩
  have HS1 : Hid (St w1 w0.heap.size s us (List.replicate Y 1024)) := hS1
  have HC1 : Hid (Chg (fun _ => False) w0 w1) := c1
  clear hs hS1 c1
  go_wp2_with fail
  refine (rcnew_any _).mono ?_
  rintro z w2 ⟨a, rfl, ha, hE2, c2⟩
  have HE2 : Hid (Enc w2 w0.heap.size a (.slice none 0 0) Rc.start) := enc_base8 ⟨_, hE2, Rc.begin_is⟩ HC1.out.size
  have HS2 : Hid (St w2 w0.heap.size s us (List.replicate Y 1024)) := HS1.out.new c2
  have HC2 : Hid (Chg (fun _ => False) w0 w2) := chg_then HC1.out c2
  clear ha hE2 c2 HS1 HC1
  cases back with
  | true =>
    go_wp2_with fail
    refine (T.cost false w0.heap.size s us (List.replicate Y 1024) 0 (N : Int) (X : Int) _ HS2.out (In31.half Y) (by rw [List.length_replicate]; have := HY10.out; omega) ⟨by omega, by omega⟩ ⟨by omega, by omega⟩ ⟨by omega, by omega⟩).mono ?_
    rintro z w3 (⟨h1, _⟩ | ⟨_, rfl, c3⟩)
    · exact absurd (by rw [List.length_replicate]; exact HFIT.out) h1
    have HE3 : Hid (Enc w3 w0.heap.size a (.slice none 0 0) Rc.start) := HE2.out.new c3
    have HS3 : Hid (St w3 w0.heap.size s us (List.replicate Y 1024)) := HS2.out.new c3
    have HC3 : Hid (Chg (fun _ => False) w0 w3) := chg_then HC2.out c3
    clear c3 HE2 HS2 HC2
    go_wp2_with fail
    refine (T.cost true w0.heap.size s us (List.replicate Y 1024) 0 (N : Int) (X : Int) _ HS3.out (In31.half Y) (by rw [List.length_replicate]; have := HY10.out; omega) ⟨by omega, by omega⟩ ⟨by omega, by omega⟩ ⟨by omega, by omega⟩).mono ?_
    rintro z w4 (⟨h1, _⟩ | ⟨_, rfl, c4⟩)
    · exact absurd (by rw [List.length_replicate]; exact HFIT.out) h1
    have HE3 : Hid (Enc w4 w0.heap.size a (.slice none 0 0) Rc.start) := HE3.out.new c4
    have HS3 : Hid (St w4 w0.heap.size s us (List.replicate Y 1024)) := HS3.out.new c4
    have HC3 : Hid (Chg (fun _ => False) w0 w4) := chg_then HC3.out c4
    clear c4
    generalize w4 = w3 at *
    have hcst : costW (List.replicate Y 1024) (0 : Int).toNat 1 (bitsOf true ((N : Int)).toNat ((X : Int)).toNat) = (l.map fun b => Prob.co (fP 0 b) (b : Int)).sum := by
      have h9 := costW_at (List.replicate Y 1024) 0 _ l 1 (AtW_start Y 0 1 l)
      rw [← HL.out] at h9 ⊢
      exact h9
    rw [hcst]
    obtain ⟨c0, hc0⟩ : ∃ c0, (l.map fun b => Prob.co (fP 0 b) (b : Int)).sum = c0 := ⟨_, rfl⟩
    rw [hc0]
    have HST : Hid (Chp w0 w3 Y a s (.slice none 0 0) us Rc.start (List.replicate Y 1024) l 0 c0) := ⟨HE3.out, HS3.out, Rc.start_ok, In31.half Y, List.length_replicate .., Nat.zero_le _, AtW_start Y 0 1 l, hc0.symm, HC3.out⟩
    clear hcst hc0 HE3 HS3 HC3
    go_wp2_with fail
    go_loopw [10, 11, 12] (fun cv fv iv wr => ∃ (i : Nat) (c : Int) (e : Rc.E) (xs : List Int) (v : Value), i ≤ 300 ∧ cv = .int .i64 c ∧ fv = .int .i64 0 ∧ iv = .int .i64 (i : Int) ∧ Hid (Chp w0 wr Y a s v us e xs l i c)) (fun _ _ iv _ => 300 - (intOf iv).toNat)
    case atStart => exact ⟨0, c0, Rc.start, _, _, by omega, rfl, rfl, rfl, HST.out⟩
    case round =>
      clear HST
      obtain ⟨i, c, e, xs, v, hi, rfl, rfl, rfl, HR⟩ := hrel
      by_cases hlt : i < 300
      · have hdi : decide ((i : Int) < 300) = true := by simp; omega
        go_wp2_with fail
        refine (T.put true w0.heap.size w0.heap.size a s v us e xs 0 (N : Int) (X : Int) _ HR.out.enc HR.out.ok (by have := HR.out.k; omega) HR.out.chg.size HR.out.st HR.out.inn (by rw [HR.out.len]; have := HY10.out; omega) ⟨by omega, by omega⟩ ⟨by omega, by omega⟩ ⟨by omega, by omega⟩).mono ?_
        rintro z w2 (⟨h1, _⟩ | ⟨_, rfl, v', hE2, hS2, c2, _⟩)
        · exact absurd (by rw [HR.out.len]; exact HFIT.out) h1
        obtain ⟨e', he'⟩ : ∃ e', (encL (numQ true 0 (N : Int) (X : Int)) e xs).1 = e' := ⟨_, rfl⟩
        obtain ⟨xs', hxs'⟩ : ∃ xs', (encL (numQ true 0 (N : Int) (X : Int)) e xs).2 = xs' := ⟨_, rfl⟩
        have hnq : numQ true 0 (N : Int) (X : Int) = wayQ 0 1 l := by unfold numQ; rw [← HL.out]; rfl
        have hq0 : ∀ q ∈ wayQ 0 1 l, q.ok xs.length := by rw [HR.out.len]; exact HOKQ.out
        have HOI := encL_within (numQ true 0 (N : Int) (X : Int)) HR.out.ok HR.out.inn
        have hk' := way_k 0 l 1 e xs HB01.out hq0
        have hat' := put_at 0 (fP i) l 1 e xs (by omega) HB01.out hq0 HR.out.at_
        have hln := way_len 0 (wayQ 0 1 l) e xs
        rw [← hnq, hxs'] at hat' hln
        rw [← hnq, he'] at hk'
        rw [he', hxs'] at HOI
        rw [he'] at hE2
        rw [hxs'] at hS2
        have HN2 : Hid (Chp w0 w2 Y a s v' us e' xs' l (i + 1) ((l.map fun b => Prob.co (fP (i + 1) b) (b : Int)).sum)) := ⟨hE2, hS2, HOI.2.1, HOI.2.2, by rw [hln]; exact HR.out.len, by have := HR.out.k; have := HLN.out; omega, hat', rfl, HR.out.chg.trans c2 (fun z f => .inr (by
          rcases f with f | f
          · exact (HR.out.enc.foot_lt f).1
          · exact (HR.out.st.own.lt z f).1))⟩
        have hcw : costW xs' (0 : Int).toNat 1 (bitsOf true ((N : Int)).toNat ((X : Int)).toNat) = (l.map fun b => Prob.co (fP (i + 1) b) (b : Int)).sum := by
          have h9 := costW_at xs' 0 _ l 1 hat'
          rw [← HL.out] at h9 ⊢
          exact h9
        have hle : (l.map fun b => Prob.co (fP (i + 1) b) (b : Int)).sum ≤ c := by
          rw [HR.out.c]
          exact sum_le l (fun b _ => fP_less i b)
        obtain ⟨c2v, hc2v⟩ : ∃ c2v, (l.map fun b => Prob.co (fP (i + 1) b) (b : Int)).sum = c2v := ⟨_, rfl⟩
        rw [hc2v] at HN2 hcw hle
        have HCW : Hid (costW xs' (0 : Int).toNat 1 (bitsOf true ((N : Int)).toNat ((X : Int)).toNat) = c2v) := hcw
        have hdle : decide (c < c2v) = false := by simp; omega
        clear hE2 hS2 c2 he' hxs' hnq hq0 HOI hk' hat' hln hcw hc2v
        go_wp2_with fail
        refine (T.cost true w0.heap.size s us xs' 0 (N : Int) (X : Int) _ HN2.out.st HN2.out.inn (by rw [HN2.out.len]; have := HY10.out; omega) ⟨by omega, by omega⟩ ⟨by omega, by omega⟩ ⟨by omega, by omega⟩).mono ?_
        rintro z w3 (⟨h1, _⟩ | ⟨_, rfl, c3⟩)
        · exact absurd (by rw [HN2.out.len]; exact HFIT.out) h1
        rw [HCW.out]
        have HN3 : Hid (Chp w0 w3 Y a s v' us e' xs' l (i + 1) c2v) := ⟨HN2.out.enc.new c3, HN2.out.st.new c3, HN2.out.ok, HN2.out.inn, HN2.out.len, HN2.out.k, HN2.out.at_, HN2.out.c, chg_then HN2.out.chg c3⟩
        clear c3 HN2
        go_wp2_with fail
        go_roundw
        case rel => exact ⟨i + 1, c2v, e', xs', v', by omega, rfl, rfl, by go_num, HN3.out⟩
        case measure => simp [intOf]; omega
      · have hi3 : i = 300 := by omega
        subst hi3
        have hce : c ≤ (N : Int) := by
          rw [HR.out.c, sum_end HB01.out, HLN.out]
          exact Int.le_refl _
        have hdc : decide (c ≤ (N : Int)) = true := by simp; omega
        have HCR : Hid (Chg (fun _ => False) w0 wr) := HR.out.chg
        go_wp2_with fail
        refine (fixed_any T _).mono ?_
        rintro z w7 ⟨rfl, c7⟩
        have HC7 : Hid (Chg (fun _ => False) w0 w7) := chg_then HCR.out c7
        clear c7
        go_wp2
        go_ret
        exact ⟨rfl, HC7.out⟩
  | false =>
    go_wp2_with fail
    refine (T.cost false w0.heap.size s us (List.replicate Y 1024) 0 (N : Int) (X : Int) _ HS2.out (In31.half Y) (by rw [List.length_replicate]; have := HY10.out; omega) ⟨by omega, by omega⟩ ⟨by omega, by omega⟩ ⟨by omega, by omega⟩).mono ?_
    rintro z w3 (⟨h1, _⟩ | ⟨_, rfl, c3⟩)
    · exact absurd (by rw [List.length_replicate]; exact HFIT.out) h1
    have HE3 : Hid (Enc w3 w0.heap.size a (.slice none 0 0) Rc.start) := HE2.out.new c3
    have HS3 : Hid (St w3 w0.heap.size s us (List.replicate Y 1024)) := HS2.out.new c3
    have HC3 : Hid (Chg (fun _ => False) w0 w3) := chg_then HC2.out c3
    clear c3 HE2 HS2 HC2
    have hcst : costW (List.replicate Y 1024) (0 : Int).toNat 1 (bitsOf false ((N : Int)).toNat ((X : Int)).toNat) = (l.map fun b => Prob.co (fP 0 b) (b : Int)).sum := by
      have h9 := costW_at (List.replicate Y 1024) 0 _ l 1 (AtW_start Y 0 1 l)
      rw [← HL.out] at h9 ⊢
      exact h9
    rw [hcst]
    obtain ⟨c0, hc0⟩ : ∃ c0, (l.map fun b => Prob.co (fP 0 b) (b : Int)).sum = c0 := ⟨_, rfl⟩
    rw [hc0]
    have HST : Hid (Chp w0 w3 Y a s (.slice none 0 0) us Rc.start (List.replicate Y 1024) l 0 c0) := ⟨HE3.out, HS3.out, Rc.start_ok, In31.half Y, List.length_replicate .., Nat.zero_le _, AtW_start Y 0 1 l, hc0.symm, HC3.out⟩
    clear hcst hc0 HE3 HS3 HC3
    go_wp2_with fail
    go_loopw [10, 11, 12] (fun cv fv iv wr => ∃ (i : Nat) (c : Int) (e : Rc.E) (xs : List Int) (v : Value), i ≤ 300 ∧ cv = .int .i64 c ∧ fv = .int .i64 0 ∧ iv = .int .i64 (i : Int) ∧ Hid (Chp w0 wr Y a s v us e xs l i c)) (fun _ _ iv _ => 300 - (intOf iv).toNat)
    case atStart => exact ⟨0, c0, Rc.start, _, _, by omega, rfl, rfl, rfl, HST.out⟩
    case round =>
      clear HST
      obtain ⟨i, c, e, xs, v, hi, rfl, rfl, rfl, HR⟩ := hrel
      by_cases hlt : i < 300
      · have hdi : decide ((i : Int) < 300) = true := by simp; omega
        go_wp2_with fail
        refine (T.put false w0.heap.size w0.heap.size a s v us e xs 0 (N : Int) (X : Int) _ HR.out.enc HR.out.ok (by have := HR.out.k; omega) HR.out.chg.size HR.out.st HR.out.inn (by rw [HR.out.len]; have := HY10.out; omega) ⟨by omega, by omega⟩ ⟨by omega, by omega⟩ ⟨by omega, by omega⟩).mono ?_
        rintro z w2 (⟨h1, _⟩ | ⟨_, rfl, v', hE2, hS2, c2, _⟩)
        · exact absurd (by rw [HR.out.len]; exact HFIT.out) h1
        obtain ⟨e', he'⟩ : ∃ e', (encL (numQ false 0 (N : Int) (X : Int)) e xs).1 = e' := ⟨_, rfl⟩
        obtain ⟨xs', hxs'⟩ : ∃ xs', (encL (numQ false 0 (N : Int) (X : Int)) e xs).2 = xs' := ⟨_, rfl⟩
        have hnq : numQ false 0 (N : Int) (X : Int) = wayQ 0 1 l := by unfold numQ; rw [← HL.out]; rfl
        have hq0 : ∀ q ∈ wayQ 0 1 l, q.ok xs.length := by rw [HR.out.len]; exact HOKQ.out
        have HOI := encL_within (numQ false 0 (N : Int) (X : Int)) HR.out.ok HR.out.inn
        have hk' := way_k 0 l 1 e xs HB01.out hq0
        have hat' := put_at 0 (fP i) l 1 e xs (by omega) HB01.out hq0 HR.out.at_
        have hln := way_len 0 (wayQ 0 1 l) e xs
        rw [← hnq, hxs'] at hat' hln
        rw [← hnq, he'] at hk'
        rw [he', hxs'] at HOI
        rw [he'] at hE2
        rw [hxs'] at hS2
        have HN2 : Hid (Chp w0 w2 Y a s v' us e' xs' l (i + 1) ((l.map fun b => Prob.co (fP (i + 1) b) (b : Int)).sum)) := ⟨hE2, hS2, HOI.2.1, HOI.2.2, by rw [hln]; exact HR.out.len, by have := HR.out.k; have := HLN.out; omega, hat', rfl, HR.out.chg.trans c2 (fun z f => .inr (by
          rcases f with f | f
          · exact (HR.out.enc.foot_lt f).1
          · exact (HR.out.st.own.lt z f).1))⟩
        have hcw : costW xs' (0 : Int).toNat 1 (bitsOf false ((N : Int)).toNat ((X : Int)).toNat) = (l.map fun b => Prob.co (fP (i + 1) b) (b : Int)).sum := by
          have h9 := costW_at xs' 0 _ l 1 hat'
          rw [← HL.out] at h9 ⊢
          exact h9
        have hle : (l.map fun b => Prob.co (fP (i + 1) b) (b : Int)).sum ≤ c := by
          rw [HR.out.c]
          exact sum_le l (fun b _ => fP_less i b)
        obtain ⟨c2v, hc2v⟩ : ∃ c2v, (l.map fun b => Prob.co (fP (i + 1) b) (b : Int)).sum = c2v := ⟨_, rfl⟩
        rw [hc2v] at HN2 hcw hle
        have HCW : Hid (costW xs' (0 : Int).toNat 1 (bitsOf false ((N : Int)).toNat ((X : Int)).toNat) = c2v) := hcw
        have hdle : decide (c < c2v) = false := by simp; omega
        clear hE2 hS2 c2 he' hxs' hnq hq0 HOI hk' hat' hln hcw hc2v
        go_wp2_with fail
        refine (T.cost false w0.heap.size s us xs' 0 (N : Int) (X : Int) _ HN2.out.st HN2.out.inn (by rw [HN2.out.len]; have := HY10.out; omega) ⟨by omega, by omega⟩ ⟨by omega, by omega⟩ ⟨by omega, by omega⟩).mono ?_
        rintro z w3 (⟨h1, _⟩ | ⟨_, rfl, c3⟩)
        · exact absurd (by rw [HN2.out.len]; exact HFIT.out) h1
        rw [HCW.out]
        have HN3 : Hid (Chp w0 w3 Y a s v' us e' xs' l (i + 1) c2v) := ⟨HN2.out.enc.new c3, HN2.out.st.new c3, HN2.out.ok, HN2.out.inn, HN2.out.len, HN2.out.k, HN2.out.at_, HN2.out.c, chg_then HN2.out.chg c3⟩
        clear c3 HN2
        go_wp2_with fail
        go_roundw
        case rel => exact ⟨i + 1, c2v, e', xs', v', by omega, rfl, rfl, by go_num, HN3.out⟩
        case measure => simp [intOf]; omega
      · have hi3 : i = 300 := by omega
        subst hi3
        have hce : c ≤ (N : Int) := by
          rw [HR.out.c, sum_end HB01.out, HLN.out]
          exact Int.le_refl _
        have hdc : decide (c ≤ (N : Int)) = true := by simp; omega
        have HCR : Hid (Chg (fun _ => False) w0 wr) := HR.out.chg
        go_wp2_with fail
        refine (fixed_any T _).mono ?_
        rintro z w7 ⟨rfl, c7⟩
        have HC7 : Hid (Chg (fun _ => False) w0 w7) := chg_then HCR.out c7
        clear c7
        go_wp2
        go_ret
        exact ⟨rfl, HC7.out⟩
end Go.Proofs.Ytibgjpifmpljkaa
