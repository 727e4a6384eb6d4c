/- The walk of TreeTwoOrders above what is asked of the program's trees; of no statement by itself. -/
import Derived.Test.YtibgjpifmpljkaaTi
import Derived.Test.YtibgjpifmpljkaaCh
import Derived.Test.YtibgjpifmpljkaaOpenD
import Derived.Test.YtibgjpifmpljkaaBoundC
namespace Go.Proofs.Ytibgjpifmpljkaa
open Go.RowKit
set_option linter.unusedVariables false

/-- A row's blocks. -/
def Rf (s : Nat) (us : Value) (z : Nat) : Prop := z = s ∨ us.ownBlock = some z
def Lies (P : Nat → Prop) (lo hi : Nat) : Prop := ∀ z, P z → lo ≤ z ∧ z < hi
theorem st_lies {w : World} {B s : Nat} {us : Value} {xs : List Int} (h : St w B s us xs) : Lies (Rf s us) B w.heap.size := fun z f => by
  rcases f with rfl | f
  · exact ⟨h.ha, lt_of_blk h.blk⟩
  · exact h.own.lt z f
theorem st_apart {w w' : World} {S : Nat → Prop} {B s : Nat} {us : Value} {xs : List Int} (h : St w B s us xs) (hc : Chg S w w') (hd : ∀ z, Rf s us z → ¬ S z) : St w' B s us xs := h.keep hc (hd s (.inl rfl)) (fun g e => hd g (.inr e))
/-- The row while the bits come. -/
structure Tw (w0 wr : World) (L s : Nat) (us : Value) (xs : List Int) : Prop where
  st : St wr w0.heap.size s us xs
  inn : In31 xs
  len : xs.length = L
  chg : Chg (fun _ => False) w0 wr

set_option maxHeartbeats 8000000 in
set_option maxRecDepth 100000 in
theorem orders_any (T : TreePut) (n x : Int) (av : Option Addr) (M cv : Nat) (fl : List Bool) (hn : I64 n) (hx : I64 x) (w0 : World) (hF : Flags w0 av fl) (hM : fl.length = M) (hM2 : M ≤ 3037000500) : Calls Try.prog 4 #[.int .i64 n, .int .i64 x, .slice av M cv] w0 fun z w' => z = .returned (.bool true) ∧ Chg (fun _ => False) w0 w' := by
  have HFL : Hid (Flags w0 av fl) := hF
  clear hF
  by_cases hn0 : n < 0
  · go_enter Try.func4, Try.ntmps4
    go_wp2_with fail
    refine (fixed_any T _).mono ?_
    rintro z w1 ⟨rfl, c1⟩
    have HCE : Hid (Chg (fun _ => False) w0 w1) := c1
    clear c1
    go_wp2
    go_ret
    exact ⟨rfl, HCE.out⟩
  by_cases hn16 : 16 < n
  · have hd0 : decide (n < 0) = false := by simp; omega
    go_enter Try.func4, Try.ntmps4
    go_wp2_with fail
    refine (fixed_any T _).mono ?_
    rintro z w1 ⟨rfl, c1⟩
    have HCE : Hid (Chg (fun _ => False) w0 w1) := c1
    clear c1
    go_wp2
    go_ret
    exact ⟨rfl, HCE.out⟩
  by_cases hx0 : x < 0
  · have hd0 : decide (n < 0) = false := by simp; omega
    have hd1 : decide (16 < n) = false := by simp; omega
    go_enter Try.func4, Try.ntmps4
    go_wp2_with fail
    refine (fixed_any T _).mono ?_
    rintro z w1 ⟨rfl, c1⟩
    have HCE : Hid (Chg (fun _ => False) w0 w1) := c1
    clear c1
    go_wp2
    go_ret
    exact ⟨rfl, HCE.out⟩
  obtain ⟨N, rfl⟩ := Int.eq_ofNat_of_zero_le (show 0 ≤ n by omega)
  obtain ⟨X, rfl⟩ := Int.eq_ofNat_of_zero_le (show 0 ≤ x by omega)
  obtain ⟨Y, hY⟩ : ∃ Y : Nat, Y = 2 ^ N := ⟨_, rfl⟩
  have HYY : Hid (Y = 2 ^ N) := hY
  have hN16 : N ≤ 16 := by omega
  have HY16 : Hid (Y ≤ 65536) := by show Y ≤ 65536; rw [hY]; exact pow16 hN16
  have hY3 : (Y : Int) ≤ 65536 := by have := HY16.out; omega
  have hsh : (2 : Int) ^ N = (Y : Int) := by rw [hY]; simp
  have hd0 : decide ((N : Int) < 0) = false := by simp
  have hd1 : decide ((16 : Int) < (N : Int)) = false := by simp; omega
  have hd2 : decide ((X : Int) < 0) = false := by simp
  clear hY hn hx hn0 hn16 hx0
  by_cases hxy : (Y : Int) ≤ (X : Int)
  · have hd3 : decide ((Y : Int) ≤ (X : Int)) = true := by simp; omega
    go_enter Try.func4, Try.ntmps4
    go_wp2_with fail
    refine (fixed_any T _).mono ?_
    rintro z w1 ⟨rfl, c1⟩
    have HCE : Hid (Chg (fun _ => False) w0 w1) := c1
    clear c1
    go_wp2
    go_ret
    exact ⟨rfl, HCE.out⟩
  have hd3 : decide ((Y : Int) ≤ (X : Int)) = false := by simp; omega
  have hxlt : (X : Int) < (Y : Int) := by omega
  obtain ⟨L, hL⟩ : ∃ L : Nat, L = Y + 9 := ⟨_, rfl⟩
  have HLY : Hid (L = Y + 9) := hL
  have HL2 : Hid (L ≤ 65545 ∧ 9 ≤ L) := by have := HY16.out; exact ⟨by omega, by omega⟩
  have HLN : Hid (∀ (w : World) (s : Nat) (us : Value) (xs : List Int), Tw w0 w L s us xs → Calls Try.prog 16 #[.pointer (some ⟨s, 0, none⟩)] w fun e w' => e = .returned (.int .i64 (L : Int)) ∧ w = w') := by
    show ∀ (w : World) (s : Nat) (us : Value) (xs : List Int), _
    intro w s us xs h
    rw [← h.len]
    exact len_any _ s us xs w h.st
  go_enter Try.func4, Try.ntmps4
  go_wp2_with fail
  refine (new_in (Y + 9) _ (by have := HY16.out; omega)).mono ?_
  rintro z w1 ⟨s, us, rfl, hs, hS1, c1⟩
  rw [← hL] at hS1
  have HT1 : Hid (Tw w0 w1 L s us (List.replicate L 1024)) := ⟨hS1, In31.half L, List.length_replicate .., c1⟩
  clear hs hS1 c1 hL
  go_wp2_with fail
  go_loopw [9] (fun iv wr => ∃ (i : Nat) (xs : List Int), i ≤ M ∧ iv = .int .i64 (i : Int) ∧ Hid (Tw w0 wr L s us xs)) (fun iv _ => M - (intOf iv).toNat)
  case atStart => exact ⟨0, _, Nat.zero_le _, rfl, HT1.out⟩
  case round =>
    clear HT1
    obtain ⟨i, xs, hi, rfl, HR⟩ := hrel
    by_cases hlt : i < M
    · have hdi : decide ((i : Int) < (M : Int)) = true := by simp; omega
      obtain ⟨b, off, rfl, hcell⟩ := HFL.out i (fl[i]'(by omega)) (List.getElem?_eq_getElem _)
      have hcell := cell_chg hcell HR.out.chg
      generalize fl[i]'(by omega) = one at hcell
      obtain ⟨Z, hZ⟩ : ∃ Z : Nat, Z = i * i := ⟨_, rfl⟩
      have hZ2 : Z ≤ 9223372030926249001 := by rw [hZ]; exact Nat.mul_le_mul (show i ≤ 3037000499 by omega) (show i ≤ 3037000499 by omega)
      have hZi : (i : Int) * (i : Int) = (Z : Int) := by rw [hZ]; simp
      have hm : IntKind.i64.wrap ((Z : Int)) = (Z : Int) := by rw [IntKind.wrap_i64]; omega
      obtain ⟨J, hJ⟩ : ∃ J : Nat, J = (Z + 5) % L := ⟨_, rfl⟩
      have HJL : Hid (J < L) := by show J < L; rw [hJ]; exact Nat.mod_lt _ (by have := HL2.out; omega)
      have hJi : ((Z : Int) + 5).tmod (L : Int) = (J : Int) := by rw [hJ]; exact (Int.ofNat_tmod (Z + 5) L).symm
      have hL9 : 9 ≤ (L : Int) := by have := HL2.out; omega
      clear hJ hZ
      cases one with
      | true =>
        go_wp2_with fail
        refine Calls.mono (HLN.out wr s us xs HR.out) ?_
        rintro z w2 ⟨rfl, rfl⟩
        go_wp2_with fail
        refine (turn_in w0.heap.size s us xs J 1 _ HR.out.st HR.out.inn.inn (by rw [HR.out.len]; exact HJL.out)).mono ?_
        rintro z w2 ⟨rfl, hS2, c2⟩
        obtain ⟨xs', HN⟩ : ∃ xs', Hid (Tw w0 w2 L s us xs') := ⟨_, hS2, HR.out.inn.set J _ (Prob.nx_lo (HR.out.inn.at J _).1 (HR.out.inn.at J _).2), by rw [List.length_set]; exact HR.out.len, HR.out.chg.trans c2 (fun z f => .inr (HR.out.st.own.lt z f).1)⟩
        clear hS2 c2 HR
        go_wp2_with fail
        go_roundw
        case rel => exact ⟨i + 1, _, by omega, by go_num, HN.out⟩
        case measure => simp [intOf]; omega
      | false =>
        go_wp2_with fail
        refine Calls.mono (HLN.out wr s us xs HR.out) ?_
        rintro z w2 ⟨rfl, rfl⟩
        go_wp2_with fail
        refine (turn_in w0.heap.size s us xs J 0 _ HR.out.st HR.out.inn.inn (by rw [HR.out.len]; exact HJL.out)).mono ?_
        rintro z w2 ⟨rfl, hS2, c2⟩
        obtain ⟨xs', HN⟩ : ∃ xs', Hid (Tw w0 w2 L s us xs') := ⟨_, hS2, HR.out.inn.set J _ (Prob.nx_lo (HR.out.inn.at J _).1 (HR.out.inn.at J _).2), by rw [List.length_set]; exact HR.out.len, HR.out.chg.trans c2 (fun z f => .inr (HR.out.st.own.lt z f).1)⟩
        clear hS2 c2 HR
        go_wp2_with fail
        go_roundw
        case rel => exact ⟨i + 1, _, by omega, by go_num, HN.out⟩
        case measure => simp [intOf]; omega
    · have hiM : M = i := by omega
      subst hiM
      have hdi : decide ((M : Int) < (M : Int)) = false := by simp
      have HST : Hid (St wr w0.heap.size s us xs) := HR.out.st
      go_wp2_with fail
      refine (fork_any w0.heap.size s us xs _ HR.out.st (by rw [HR.out.len]; have := HL2.out; omega)).mono ?_
      rintro z w2 ⟨sw, uw, rfl, _, hS, c2⟩
      have HIN : Hid (In31 xs ∧ xs.length = L) := ⟨HR.out.inn, HR.out.len⟩
      have LA : Hid (Lies (Rf s us) w0.heap.size wr.heap.size) := st_lies HR.out.st
      have LW : Hid (Lies (Rf sw uw) wr.heap.size w2.heap.size) := st_lies hS
      have Z0 : Hid (w0.heap.size ≤ wr.heap.size ∧ wr.heap.size ≤ w2.heap.size) := ⟨HR.out.chg.size, c2.size⟩
      have HSa : Hid (St w2 w0.heap.size s us xs) := HR.out.st.new c2
      have HSw : Hid (St w2 wr.heap.size sw uw xs) := hS
      have HC : Hid (Chg (fun _ => False) w0 w2) := chg_then HR.out.chg c2
      clear hS c2 HR
      go_wp2_with fail
      refine (fork_any w0.heap.size s us xs _ HSa.out (by rw [HIN.out.2]; have := HL2.out; omega)).mono ?_
      rintro z w3 ⟨sc, ub, rfl, _, hS, c3⟩
      have LB : Hid (Lies (Rf sc ub) w2.heap.size w3.heap.size) := st_lies hS
      have Z2 : Hid (w2.heap.size ≤ w3.heap.size) := c3.size
      have HSa3 : Hid (St w3 w0.heap.size s us xs) := HSa.out.new c3
      have HSw3 : Hid (St w3 wr.heap.size sw uw xs) := HSw.out.new c3
      have HSc3 : Hid (St w3 w2.heap.size sc ub xs) := hS
      have HC3 : Hid (Chg (fun _ => False) w0 w3) := chg_then HC.out c3
      clear hS c3 HSa HSw HC
      go_wp2_with fail
      refine (rcnew_any _).mono ?_
      rintro z w4 ⟨ax, rfl, _, hE, c4⟩
      have HEx4 : Hid (Enc w4 w3.heap.size ax (.slice none 0 0) Rc.start) := ⟨_, hE, Rc.begin_is⟩
      have LX : Hid (Lies (Foot ax (.slice none 0 0)) w3.heap.size w4.heap.size) := fun z f => HEx4.out.foot_lt f
      have Z3 : Hid (w3.heap.size ≤ w4.heap.size) := c4.size
      have HSa4 : Hid (St w4 w0.heap.size s us xs) := HSa3.out.new c4
      have HSw4 : Hid (St w4 wr.heap.size sw uw xs) := HSw3.out.new c4
      have HSc4 : Hid (St w4 w2.heap.size sc ub xs) := HSc3.out.new c4
      have HC4 : Hid (Chg (fun _ => False) w0 w4) := chg_then HC3.out c4
      clear hE c4 HSa3 HSw3 HSc3 HC3
      go_wp2_with fail
      refine (rcnew_any _).mono ?_
      rintro z w5 ⟨ay, rfl, _, hE, c5⟩
      have HEy5 : Hid (Enc w5 w4.heap.size ay (.slice none 0 0) Rc.start) := ⟨_, hE, Rc.begin_is⟩
      have LY : Hid (Lies (Foot ay (.slice none 0 0)) w4.heap.size w5.heap.size) := fun z f => HEy5.out.foot_lt f
      have Z4 : Hid (w4.heap.size ≤ w5.heap.size) := c5.size
      have HEx5 : Hid (Enc w5 w3.heap.size ax (.slice none 0 0) Rc.start) := HEx4.out.new c5
      have HSa5 : Hid (St w5 w0.heap.size s us xs) := HSa4.out.new c5
      have HSw5 : Hid (St w5 wr.heap.size sw uw xs) := HSw4.out.new c5
      have HSc5 : Hid (St w5 w2.heap.size sc ub xs) := HSc4.out.new c5
      have HC5 : Hid (Chg (fun _ => False) w0 w5) := chg_then HC4.out c5
      clear hE c5 HSa4 HSw4 HSc4 HC4 HEx4
      obtain ⟨V, hV⟩ : ∃ V : Nat, V = turnedN N X := ⟨_, rfl⟩
      have HV : Hid (V = turnedN N X) := hV
      have hVY : (V : Int) < (Y : Int) := by have h9 := turned_lt N X; have := HYY.out; omega
      have HFIT : Hid (∀ y : Nat, (y : Int) < (Y : Int) → Fits xs.length 9 (N : Int) (y : Int)) := by
        show ∀ y : Nat, _
        intro y hy
        have := HLY.out
        refine ⟨⟨by omega, by omega, by omega, ?_⟩, by omega, ?_⟩
        · rw [HIN.out.2, Int.toNat_natCast, hsh]; omega
        · rw [Int.toNat_natCast, hsh]; exact hy
      obtain ⟨c, hc⟩ : ∃ c : Int, costW xs 9 1 (bitsOf true N X) = c := ⟨_, rfl⟩
      have HCA : Hid (costW xs (9 : Int).toNat 1 (bitsOf false ((N : Int)).toNat ((V : Int)).toNat) = c) := by
        show _ = _
        rw [Int.toNat_natCast, Int.toNat_natCast, HV.out, turned_bits]
        exact hc
      have HCB : Hid (costW xs (9 : Int).toNat 1 (bitsOf true ((N : Int)).toNat ((X : Int)).toNat) = c) := by
        show _ = _
        rw [Int.toNat_natCast, Int.toNat_natCast]
        exact hc
      have HQ : Hid (numQ false 9 (N : Int) (V : Int) = numQ true 9 (N : Int) (X : Int)) := by
        show _ = _
        unfold numQ
        rw [Int.toNat_natCast, Int.toNat_natCast, Int.toNat_natCast, HV.out, turned_bits]
      obtain ⟨e', he'⟩ : ∃ e', (encL (numQ true 9 (N : Int) (X : Int)) Rc.start xs).1 = e' := ⟨_, rfl⟩
      obtain ⟨xs', hxs'⟩ : ∃ xs', (encL (numQ true 9 (N : Int) (X : Int)) Rc.start xs).2 = xs' := ⟨_, rfl⟩
      have HE' : Hid ((encL (numQ true 9 (N : Int) (X : Int)) Rc.start xs).1 = e' ∧ (encL (numQ true 9 (N : Int) (X : Int)) Rc.start xs).2 = xs') := ⟨he', hxs'⟩
      have HW9 : Hid (numQ true 9 (N : Int) (X : Int) = wayQ 9 1 (bitsOf true N X) ∧ ∀ q ∈ wayQ 9 1 (bitsOf true N X), q.ok xs.length) := by
        refine ⟨?_, ?_⟩
        · unfold numQ
          rw [Int.toNat_natCast, Int.toNat_natCast]
          rfl
        · exact wayQ_ok1 (n := N) (by rw [HIN.out.2]; have := HYY.out; have := HLY.out; omega) (bitsOf_01 _ _ _) (by rw [bitsOf_len]; omega)
      have HIN9 : Hid (In31 xs' ∧ xs'.length = L) := by
        have h1 := encL_within (numQ true 9 (N : Int) (X : Int)) Rc.start_ok HIN.out.1
        have h2 := way_len 9 (wayQ 9 1 (bitsOf true N X)) Rc.start xs
        rw [← HW9.out.1, hxs'] at h2
        rw [hxs'] at h1
        exact ⟨h1.2.2, by rw [h2]; exact HIN.out.2⟩
      have HK9 : Hid (e'.k + 5 ≤ 140737488355328) := by
        have h1 := way_k 9 (bitsOf true N X) 1 Rc.start xs (bitsOf_01 _ _ _) HW9.out.2
        rw [← HW9.out.1, he', bitsOf_len] at h1
        have h0 : Rc.start.k ≤ 1 := by decide
        show e'.k + 5 ≤ _
        omega
      have HDF : Hid (∀ i, diff xs' xs i ≤ N) := by
        show ∀ i, _
        intro i
        have h1 := diff_way 9 (bitsOf true N X) 1 Rc.start xs i (bitsOf_01 _ _ _) HW9.out.2
        rw [← HW9.out.1, hxs', bitsOf_len] at h1
        rw [diff_comm]
        exact h1
      have hX65 : X ≤ 65535 := by have := HY16.out; omega
      clear hV hc he' hxs'
      go_wp2_with fail
      refine (turned_any N X V hN16 hX65 HV.out _).mono ?_
      rintro z w6 ⟨rfl, rfl⟩
      go_wp2_with fail
      refine (T.cost false w0.heap.size s us xs 9 (N : Int) (V : Int) _ HSa5.out HIN.out.1 (by rw [HIN.out.2]; have := HL2.out; omega) ⟨by omega, by omega⟩ ⟨by omega, by omega⟩ ⟨by omega, by omega⟩).mono ?_
      rintro z w6 (⟨h1, _⟩ | ⟨_, rfl, c6⟩)
      · exact absurd (HFIT.out V hVY) h1
      rw [HCA.out]
      have Z5 : Hid (w5.heap.size ≤ w6.heap.size) := c6.size
      have HEx6 : Hid (Enc w6 w3.heap.size ax (.slice none 0 0) Rc.start) := HEx5.out.new c6
      have HEy6 : Hid (Enc w6 w4.heap.size ay (.slice none 0 0) Rc.start) := HEy5.out.new c6
      have HSa6 : Hid (St w6 w0.heap.size s us xs) := HSa5.out.new c6
      have HSw6 : Hid (St w6 wr.heap.size sw uw xs) := HSw5.out.new c6
      have HSc6 : Hid (St w6 w2.heap.size sc ub xs) := HSc5.out.new c6
      have HC6 : Hid (Chg (fun _ => False) w0 w6) := chg_then HC5.out c6
      clear c6 HEx5 HEy5 HSa5 HSw5 HSc5 HC5
      go_wp2_with fail
      refine (T.cost true w2.heap.size sc ub xs 9 (N : Int) (X : Int) _ HSc6.out HIN.out.1 (by rw [HIN.out.2]; have := HL2.out; omega) ⟨by omega, by omega⟩ ⟨by omega, by omega⟩ ⟨by omega, by omega⟩).mono ?_
      rintro z w7 (⟨h1, _⟩ | ⟨_, rfl, c7⟩)
      · exact absurd (HFIT.out X hxlt) h1
      rw [HCB.out]
      have Z6 : Hid (w6.heap.size ≤ w7.heap.size) := c7.size
      have HEx7 : Hid (Enc w7 w3.heap.size ax (.slice none 0 0) Rc.start) := HEx6.out.new c7
      have HEy7 : Hid (Enc w7 w4.heap.size ay (.slice none 0 0) Rc.start) := HEy6.out.new c7
      have HSa7 : Hid (St w7 w0.heap.size s us xs) := HSa6.out.new c7
      have HSw7 : Hid (St w7 wr.heap.size sw uw xs) := HSw6.out.new c7
      have HSc7 : Hid (St w7 w2.heap.size sc ub xs) := HSc6.out.new c7
      have HC7 : Hid (Chg (fun _ => False) w0 w7) := chg_then HC6.out c7
      clear c7 HEx6 HEy6 HSa6 HSw6 HSc6 HC6 HCA HCB
      go_wp2_with fail
      refine (turned_any N X V hN16 hX65 HV.out _).mono ?_
      rintro z w8 ⟨rfl, rfl⟩
      go_wp2_with fail
      refine (T.put false w3.heap.size w0.heap.size ax s (.slice none 0 0) us Rc.start xs 9 (N : Int) (V : Int) _ HEx7.out Rc.start_ok (by decide) (by have := Z3.out; have := Z4.out; have := Z5.out; have := Z6.out; omega) HSa7.out HIN.out.1 (by rw [HIN.out.2]; have := HL2.out; omega) ⟨by omega, by omega⟩ ⟨by omega, by omega⟩ ⟨by omega, by omega⟩).mono ?_
      rintro z w8 (⟨h1, _⟩ | ⟨_, rfl, vx, hE, hS, c8, hM8⟩)
      · exact absurd (HFIT.out V hVY) h1
      rw [HQ.out, HE'.out.1] at hE
      rw [HQ.out, HE'.out.2] at hS
      have ZZ := And.intro Z0.out (And.intro Z2.out (And.intro Z3.out (And.intro Z4.out (And.intro Z5.out Z6.out))))
      have HEx8 : Hid (Enc w8 w3.heap.size ax vx e') := hE
      have HSa8 : Hid (St w8 w0.heap.size s us xs') := hS
      have HFP : Hid (∀ z, Fp ax (.slice none 0 0) us z → (w0.heap.size ≤ z ∧ z < wr.heap.size) ∨ (w3.heap.size ≤ z ∧ z < w4.heap.size)) := by
        show ∀ z, _
        rintro z (f | f)
        · exact .inr (LX.out z f)
        · exact .inl (LA.out z (.inr f))
      have HEy8 : Hid (Enc w8 w4.heap.size ay (.slice none 0 0) Rc.start) := HEy7.out.keep c8 (fun z f g => by have := HFP.out z f; have := LY.out z g; omega)
      have HSw8 : Hid (St w8 wr.heap.size sw uw xs) := st_apart HSw7.out c8 (fun z f g => by have := HFP.out z g; have := LW.out z f; omega)
      have HSc8 : Hid (St w8 w2.heap.size sc ub xs) := st_apart HSc7.out c8 (fun z f g => by have := HFP.out z g; have := LB.out z f; omega)
      have HC8 : Hid (Chg (fun _ => False) w0 w8) := HC7.out.trans c8 (fun z f => .inr (by have := HFP.out z f; omega))
      have Z7 : Hid (w7.heap.size ≤ w8.heap.size) := c8.size
      have LX8 : Hid (∀ z, Foot ax vx z → (w3.heap.size ≤ z ∧ z < w4.heap.size) ∨ w7.heap.size ≤ z) := by
        show ∀ z, _
        intro z f
        rcases hM8.foot ax z f with h | h
        · exact .inl (LX.out z h)
        · exact .inr h
      clear hE hS c8 hM8 ZZ HFP HEx7 HEy7 HSa7 HSw7 HSc7 HC7
      go_wp2_with fail
      refine (T.put true w4.heap.size w2.heap.size ay sc (.slice none 0 0) ub Rc.start xs 9 (N : Int) (X : Int) _ HEy8.out Rc.start_ok (by decide) (by have := Z4.out; have := Z5.out; have := Z6.out; have := Z7.out; omega) HSc8.out HIN.out.1 (by rw [HIN.out.2]; have := HL2.out; omega) ⟨by omega, by omega⟩ ⟨by omega, by omega⟩ ⟨by omega, by omega⟩).mono ?_
      rintro z w9 (⟨h1, _⟩ | ⟨_, rfl, vy, hE, hS, c9, hM9⟩)
      · exact absurd (HFIT.out X hxlt) h1
      rw [HE'.out.1] at hE
      rw [HE'.out.2] at hS
      have ZZ := And.intro Z0.out (And.intro Z2.out (And.intro Z3.out (And.intro Z4.out (And.intro Z5.out (And.intro Z6.out Z7.out)))))
      have HEy9 : Hid (Enc w9 w4.heap.size ay vy e') := hE
      have HSc9 : Hid (St w9 w2.heap.size sc ub xs') := hS
      have HFP : Hid (∀ z, Fp ay (.slice none 0 0) ub z → (w2.heap.size ≤ z ∧ z < w3.heap.size) ∨ (w4.heap.size ≤ z ∧ z < w5.heap.size)) := by
        show ∀ z, _
        rintro z (f | f)
        · exact .inr (LY.out z f)
        · exact .inl (LB.out z (.inr f))
      have HEx9 : Hid (Enc w9 w3.heap.size ax vx e') := HEx8.out.keep c9 (fun z f g => by have := HFP.out z f; have := LX8.out z g; omega)
      have HSw9 : Hid (St w9 wr.heap.size sw uw xs) := st_apart HSw8.out c9 (fun z f g => by have := HFP.out z g; have := LW.out z f; omega)
      have HSa9 : Hid (St w9 w0.heap.size s us xs') := st_apart HSa8.out c9 (fun z f g => by have := HFP.out z g; have := LA.out z f; omega)
      have HC9 : Hid (Chg (fun _ => False) w0 w9) := HC8.out.trans c9 (fun z f => .inr (by have := HFP.out z f; omega))
      clear hE hS c9 hM9 ZZ HFP HEx8 HEy8 HSa8 HSw8 HSc8 HC8 LA LW LB LX LY LX8 Z0 Z2 Z3 Z4 Z5 Z6 Z7 HFIT HQ HE' HW9
      have HTW : Hid (Tw w0 w9 L s us xs') := ⟨HSa9.out, HIN9.out.1, HIN9.out.2, HC9.out⟩
      go_wp2_with fail
      go_loopw [19, 20] (fun mv iv wq => ∃ i m : Nat, i ≤ L ∧ m ≤ i ∧ Hid (m = diff xs' xs i) ∧ mv = .int .i64 (m : Int) ∧ iv = .int .i64 (i : Int) ∧ wq = w9) (fun _ iv _ => L - (intOf iv).toNat)
      case atStart => exact ⟨0, 0, Nat.zero_le _, Nat.le_refl _, rfl, rfl, rfl, rfl⟩
      case round =>
        obtain ⟨i, m, hi, hmi, HM, rfl, rfl, rfl⟩ := hrel
        have hL65 : (L : Int) ≤ 65545 := by have := HL2.out; omega
        by_cases hlt : i < L
        · have hdi : decide ((i : Int) < (L : Int)) = true := by simp; omega
          have hix : i < xs.length := by rw [HIN.out.2]; exact hlt
          have hix' : i < xs'.length := by rw [HIN9.out.2]; exact hlt
          have HNX : Hid (diff xs' xs (i + 1) = m + (if xs'[i] ≠ xs[i] then 1 else 0)) := by
            show _ = _
            rw [diff_succ, getD_at hix, getD_at hix', HM.out]
          go_wp2_with fail
          refine Calls.mono (HLN.out _ s us xs' HTW.out) ?_
          rintro z w2 ⟨rfl, rfl⟩
          go_wp2_with fail
          refine (at_in _ s us xs' i _ HSa9.out HIN9.out.1.inn hix').mono ?_
          rintro z w2 ⟨rfl, rfl⟩
          go_wp2_with fail
          refine (at_in _ sw uw xs i _ HSw9.out HIN.out.1.inn hix).mono ?_
          rintro z w2 ⟨rfl, rfl⟩
          generalize xs'[i] = P at *
          generalize xs[i] = R at *
          by_cases hPR : P = R
          · subst hPR
            have HM' : Hid (m = diff xs' xs (i + 1)) := by show _ = _; rw [HNX.out, if_neg (fun f => f rfl)]; omega
            clear HNX
            go_wp2_with fail
            go_roundw
            case rel => exact ⟨i + 1, m, by omega, by omega, HM'.out, rfl, by go_num, trivial⟩
            case measure => simp [intOf]; omega
          · have HM' : Hid (m + 1 = diff xs' xs (i + 1)) := by show _ = _; rw [HNX.out, if_pos hPR]
            have hdp : decide (P = R) = false := by simp; exact hPR
            clear HNX
            go_wp2_with fail
            go_roundw
            case rel => exact ⟨i + 1, m + 1, by omega, by omega, HM'.out, by go_num, by go_num, trivial⟩
            case measure => simp [intOf]; omega
        · have hiL : L = i := by omega
          subst hiL
          have hdi : decide ((L : Int) < (L : Int)) = false := by simp
          have hmN : m ≤ N := by rw [HM.out]; exact HDF.out _
          have hdm : decide ((m : Int) ≤ (N : Int)) = true := by simp; omega
          go_wp2_with fail
          refine Calls.mono (HLN.out _ s us xs' HTW.out) ?_
          rintro z w2 ⟨rfl, rfl⟩
          go_wp2_with fail
          refine wp_region_last (mk := fun u => #[_, _, _, _, _, _, _, _, _, _, _, _, _, _, _, _, _, _, _, _, _, _, _, _, _, _, _, _, _, _, _, _, _, _, _, _, _, _, _, _, _, _, _, _, _, _, _, _, _, _, _, _, _, _, _, _, _, _, _, _, _, _, _, _, _, _, _, _, _, _, _, _, _, _, _, _, _, _, _, _, _, _, _, _, _, _, _, _, _, _, _, _, _, _, _, _, _, _, _, _, _, _, _, _, _, _, _, _, _, _, _, _, _, _, _, _, _, _, _, _, _, _, _, _, _, _, _, _, _, _, _, _, _, _, _, _, _, _, _, _, _, _, _, _, _, _, _, _, _, _, u 150, u 151, u 152, u 153, u 154, u 155, u 156, u 157, u 158, u 159, u 160, u 161, u 162, u 163, u 164, u 165, u 166, u 167, u 168, u 169]) (F := fun slot vv ww => (look [(150, .val (.pointer (some ⟨ax, 0, none⟩))), (151, .is (fun q wq => wq.ownsRow w0.heap.size 5 1 q (e'.k + 5) (ins .u8 (nums (Rc.by_ e'))))), (152, .val (.string (sb e'))), (153, .val (.pointer (some ⟨ay, 0, none⟩))), (154, .is (fun q wq => wq.ownsRow w0.heap.size 5 1 q (e'.k + 5) (ins .u8 (nums (Rc.by_ e'))))), (155, .val (.string (sb e'))), (156, .val (.bool true)), (157, .val (.bool true)), (158, .val (.pointer (some ⟨s, 0, none⟩))), (159, .val (.pointer (some ⟨sc, 0, none⟩))), (160, .val (.bool true)), (161, .val (.bool true)), (162, .val (.bool true)), (163, .val (.int .i64 (m : Int))), (164, .val (.int .i64 (N : Int))), (165, .val (.bool true)), (166, .val (.bool true)), (167, .val (.bool true)), (168, .val (.bool true)), (169, .val (.bool true))] slot).holds vv ww) (fun _ => undef) rfl (by kernel_rfl) 20 _ rfl rfl (by kernel_rfl) ?_ (fun _ v w w' hc h => Fact.stays _ v w w' hc h) ?_ ?_
          · repeat (refine ⟨⟨_, rfl, fun _ _ => rfl⟩, ?_⟩)
            exact trivial
          · refine ⟨?_, ?_, ?_, ?_, ?_, ?_, ?_, ?_, ?_, ?_, ?_, ?_, ?_, ?_, ?_, ?_, ?_, ?_, ?_, ?_, trivial⟩
            · intro u w hc hd K hK -- 150
              clear hd
              go_simp
              exact hK.out (.pointer (some ⟨ax, 0, none⟩)) w (Chg.refl _ _) rfl
            · intro u w hc hd K hK -- 151
              have h150 : (Fact.val (.pointer (some ⟨ax, 0, none⟩))).holds (u 150) w := hd.get 0 (by kernel_rfl)
              simp only [Fact.holds] at h150
              clear hd
              simp only [h150] at hK
              go_simp
              go_at_call 20
              refine (bytes_any _ ax vx e' w (HEx9.out.new hc) HK9.out).mono ?_
              rintro x w2 ⟨v2, rfl, ho, c2⟩
              exact hK.out _ _ c2 ⟨w2, owns_base ho (Nat.le_trans HC9.out.size hc.size), Chg.refl _ _⟩
            · intro u w hc hd K hK -- 152
              have h151 : (Fact.is (fun q wq => wq.ownsRow w0.heap.size 5 1 q (e'.k + 5) (ins .u8 (nums (Rc.by_ e'))))).holds (u 151) w := hd.get 1 (by kernel_rfl)
              obtain ⟨q151, h151, p151⟩ := h151
              clear hd
              have o151 := ownsRow_keep h151 p151 (fun _ _ f => f)
              obtain ⟨ad, cap, e151, _⟩ := own_any o151
              rw [e151] at o151
              have hcv : (convert 39 9 (.slice ad (e'.k + 5) cap)).run Try.prog w = .ok (.string (sb e')) w := conv_own o151
              clear o151
              simp only [e151] at hK
              go_simp
              exact hK.out (.string (sb e')) w (Chg.refl _ _) rfl
            · intro u w hc hd K hK -- 153
              clear hd
              go_simp
              exact hK.out (.pointer (some ⟨ay, 0, none⟩)) w (Chg.refl _ _) rfl
            · intro u w hc hd K hK -- 154
              have h153 : (Fact.val (.pointer (some ⟨ay, 0, none⟩))).holds (u 153) w := hd.get 3 (by kernel_rfl)
              simp only [Fact.holds] at h153
              clear hd
              simp only [h153] at hK
              go_simp
              go_at_call 20
              refine (bytes_any _ ay vy e' w (HEy9.out.new hc) HK9.out).mono ?_
              rintro x w2 ⟨v2, rfl, ho, c2⟩
              exact hK.out _ _ c2 ⟨w2, owns_base ho (Nat.le_trans HC9.out.size hc.size), Chg.refl _ _⟩
            · intro u w hc hd K hK -- 155
              have h154 : (Fact.is (fun q wq => wq.ownsRow w0.heap.size 5 1 q (e'.k + 5) (ins .u8 (nums (Rc.by_ e'))))).holds (u 154) w := hd.get 4 (by kernel_rfl)
              obtain ⟨q154, h154, p154⟩ := h154
              clear hd
              have o154 := ownsRow_keep h154 p154 (fun _ _ f => f)
              obtain ⟨ad, cap, e154, _⟩ := own_any o154
              rw [e154] at o154
              have hcv : (convert 39 9 (.slice ad (e'.k + 5) cap)).run Try.prog w = .ok (.string (sb e')) w := conv_own o154
              clear o154
              simp only [e154] at hK
              go_simp
              exact hK.out (.string (sb e')) w (Chg.refl _ _) rfl
            · intro u w hc hd K hK -- 156
              have h152 : (Fact.val (.string (sb e'))).holds (u 152) w := hd.get 2 (by kernel_rfl)
              simp only [Fact.holds] at h152
              have h155 : (Fact.val (.string (sb e'))).holds (u 155) w := hd.get 5 (by kernel_rfl)
              simp only [Fact.holds] at h155
              clear hd
              simp only [h152, h155] at hK
              go_simp
              exact hK.out (.bool true) w (Chg.refl _ _) rfl
            · intro u w hc hd K hK -- 157
              have h156 : (Fact.val (.bool true)).holds (u 156) w := hd.get 6 (by kernel_rfl)
              simp only [Fact.holds] at h156
              clear hd
              simp only [h156] at hK
              go_simp
              exact hK.out (.bool true) w (Chg.refl _ _) rfl
            · intro u w hc hd K hK -- 158
              have h157 : (Fact.val (.bool true)).holds (u 157) w := hd.get 7 (by kernel_rfl)
              simp only [Fact.holds] at h157
              clear hd
              simp only [h157] at hK
              go_simp
              exact hK.out (.pointer (some ⟨s, 0, none⟩)) w (Chg.refl _ _) rfl
            · intro u w hc hd K hK -- 159
              have h157 : (Fact.val (.bool true)).holds (u 157) w := hd.get 7 (by kernel_rfl)
              simp only [Fact.holds] at h157
              clear hd
              simp only [h157] at hK
              go_simp
              exact hK.out (.pointer (some ⟨sc, 0, none⟩)) w (Chg.refl _ _) rfl
            · intro u w hc hd K hK -- 160
              have h158 : (Fact.val (.pointer (some ⟨s, 0, none⟩))).holds (u 158) w := hd.get 8 (by kernel_rfl)
              simp only [Fact.holds] at h158
              have h159 : (Fact.val (.pointer (some ⟨sc, 0, none⟩))).holds (u 159) w := hd.get 9 (by kernel_rfl)
              simp only [Fact.holds] at h159
              have h157 : (Fact.val (.bool true)).holds (u 157) w := hd.get 7 (by kernel_rfl)
              simp only [Fact.holds] at h157
              clear hd
              simp only [h157, h158, h159] at hK
              go_simp
              go_at_call 21
              refine (alike2_any _ _ s sc us ub xs' w (HSa9.out.new hc) (HSc9.out.new hc) HIN9.out.1.inn (by rw [HIN9.out.2]; have := HL2.out; omega)).mono ?_
              rintro x w2 ⟨rfl, rfl⟩
              exact hK.out _ _ (Chg.refl _ _) rfl
            · intro u w hc hd K hK -- 161
              have h157 : (Fact.val (.bool true)).holds (u 157) w := hd.get 7 (by kernel_rfl)
              simp only [Fact.holds] at h157
              have h160 : (Fact.val (.bool true)).holds (u 160) w := hd.get 10 (by kernel_rfl)
              simp only [Fact.holds] at h160
              clear hd
              simp only [h157, h160] at hK
              go_simp
              exact hK.out (.bool true) w (Chg.refl _ _) rfl
            · intro u w hc hd K hK -- 162
              have h161 : (Fact.val (.bool true)).holds (u 161) w := hd.get 11 (by kernel_rfl)
              simp only [Fact.holds] at h161
              clear hd
              simp only [h161] at hK
              go_simp
              exact hK.out (.bool true) w (Chg.refl _ _) rfl
            · intro u w hc hd K hK -- 163
              have h162 : (Fact.val (.bool true)).holds (u 162) w := hd.get 12 (by kernel_rfl)
              simp only [Fact.holds] at h162
              clear hd
              simp only [h162] at hK
              go_simp
              exact hK.out (.int .i64 (m : Int)) w (Chg.refl _ _) rfl
            · intro u w hc hd K hK -- 164
              have h162 : (Fact.val (.bool true)).holds (u 162) w := hd.get 12 (by kernel_rfl)
              simp only [Fact.holds] at h162
              clear hd
              simp only [h162] at hK
              go_simp
              exact hK.out (.int .i64 (N : Int)) w (Chg.refl _ _) rfl
            · intro u w hc hd K hK -- 165
              have h163 : (Fact.val (.int .i64 (m : Int))).holds (u 163) w := hd.get 13 (by kernel_rfl)
              simp only [Fact.holds] at h163
              have h164 : (Fact.val (.int .i64 (N : Int))).holds (u 164) w := hd.get 14 (by kernel_rfl)
              simp only [Fact.holds] at h164
              have h162 : (Fact.val (.bool true)).holds (u 162) w := hd.get 12 (by kernel_rfl)
              simp only [Fact.holds] at h162
              clear hd
              simp only [h162, h163, h164] at hK
              go_simp
              exact hK.out (.bool true) w (Chg.refl _ _) rfl
            · intro u w hc hd K hK -- 166
              have h162 : (Fact.val (.bool true)).holds (u 162) w := hd.get 12 (by kernel_rfl)
              simp only [Fact.holds] at h162
              have h165 : (Fact.val (.bool true)).holds (u 165) w := hd.get 15 (by kernel_rfl)
              simp only [Fact.holds] at h165
              clear hd
              simp only [h162, h165] at hK
              go_simp
              exact hK.out (.bool true) w (Chg.refl _ _) rfl
            · intro u w hc hd K hK -- 167
              have h166 : (Fact.val (.bool true)).holds (u 166) w := hd.get 16 (by kernel_rfl)
              simp only [Fact.holds] at h166
              clear hd
              simp only [h166] at hK
              go_simp
              exact hK.out (.bool true) w (Chg.refl _ _) rfl
            · intro u w hc hd K hK -- 168
              have h167 : (Fact.val (.bool true)).holds (u 167) w := hd.get 17 (by kernel_rfl)
              simp only [Fact.holds] at h167
              clear hd
              simp only [h167] at hK
              go_simp
              go_at_call 8
              refine (fixed_any T w).mono ?_
              rintro x w2 ⟨rfl, c2⟩
              exact hK.out _ _ c2 rfl
            · intro u w hc hd K hK -- 169
              have h167 : (Fact.val (.bool true)).holds (u 167) w := hd.get 17 (by kernel_rfl)
              simp only [Fact.holds] at h167
              have h168 : (Fact.val (.bool true)).holds (u 168) w := hd.get 18 (by kernel_rfl)
              simp only [Fact.holds] at h168
              clear hd
              simp only [h167, h168] at hK
              go_simp
              exact hK.out (.bool true) w (Chg.refl _ _) rfl
          · intro u w hc hA K hK
            have e_ : u 169 = .bool true := hA.at 169 (by kernel_rfl)
            clear hA
            have HCE : Hid (Chg (fun _ => False) w0 w) := chg_then HC9.out hc
            clear hc
            go_simp
            refine hK.out _ _ ?_
            go_simp
            go_wp2
            go_ret
            exact ⟨rfl, HCE.out⟩
end Go.Proofs.Ytibgjpifmpljkaa
