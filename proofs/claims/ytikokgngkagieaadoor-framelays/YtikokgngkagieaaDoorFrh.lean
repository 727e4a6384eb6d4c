/- The document's Header and Footer; of no statement by themselves. -/
import Derived.Test.YtikokgngkagieaaDoorFrf
import Derived.Test.YtikokgngkagieaaDoorFrc
import Derived.Test.YtikokgngkagieaaDoorRs
namespace Go.Proofs.YtikokgngkagieaaDoor
open Go.RowKit
set_option linter.unusedVariables false
set_option linter.unusedSimpArgs false
/-- Between the operations of the footer's six bytes. -/
structure FtJ (W : World) (lw : List Nat) (k : Nat) (L4 L9 : Bool) (v4 v9 : Value) (w : World) : Prop where
  ch : Chg (fun _ => False) W w
  h4 : L4 = true → ∃ oa oc, v4 = .slice oa 4 oc ∧ Row8 w oa 4 oc (nums lw)
  h9 : L9 = true → ∃ b, v9 = .slice (some ⟨b, 0, none⟩) 1 1 ∧ Row8 w (some ⟨b, 0, none⟩) 1 1 (nums [k])
theorem FtJ.go {W : World} {lw : List Nat} {k : Nat} {L4 L9 : Bool} {v4 v9 : Value} {w w' : World} (h : FtJ W lw k L4 L9 v4 v9 w) (hc : Chg (fun _ => False) w w') : FtJ W lw k L4 L9 v4 v9 w' :=
  ⟨chg_then h.ch hc, fun e => by obtain ⟨oa, oc, e1, e2⟩ := h.h4 e; exact ⟨oa, oc, e1, Bk.row8_chg e2 hc⟩, fun e => by obtain ⟨b, e1, e2⟩ := h.h9 e; exact ⟨b, e1, Bk.row8_chg e2 hc⟩⟩
theorem FtJ.set4 {W : World} {lw : List Nat} {k : Nat} {L : Nat → Bool} {u : Nat → Value} {w w' : World} (h : FtJ W lw k (L 4) (L 9) (u 27) (u 32) w) (hc : Chg (fun _ => False) w w') {oa : Option Addr} {oc : Nat} (hr : Row8 w' oa 4 oc (nums lw)) : FtJ W lw k (also L 4 4) (also L 4 9) (upd u 27 (.slice oa 4 oc) 27) (upd u 27 (.slice oa 4 oc) 32) w' :=
  ⟨chg_then h.ch hc, fun _ => ⟨oa, oc, rfl, hr⟩, fun e => by obtain ⟨b, e1, e2⟩ := h.h9 e; exact ⟨b, e1, Bk.row8_chg e2 hc⟩⟩
theorem FtJ.set9 {W : World} {lw : List Nat} {k : Nat} {L : Nat → Bool} {u : Nat → Value} {w : World} (h : FtJ W lw k (L 4) (L 9) (u 27) (u 32) w) (hk : k < 256) : FtJ W lw k (also L 9 4) (also L 9 9) (upd u 32 (.slice (some ⟨w.heap.size, 0, none⟩) 1 1) 27) (upd u 32 (.slice (some ⟨w.heap.size, 0, none⟩) 1 1) 32) (w.alloc (.cells #[.int .u8 (k : Int)] 5)) :=
  ⟨(h.go (chg_one w (.cells #[.int .u8 (k : Int)] 5))).ch, (h.go (chg_one w (.cells #[.int .u8 (k : Int)] 5))).h4, fun _ => ⟨_, rfl, row8_lit24 w [k] 1 5 rfl #[.int .u8 (k : Int)] rfl⟩⟩
theorem FtJ.keep5 {W : World} {lw : List Nat} {k : Nat} {L : Nat → Bool} {u : Nat → Value} {v : Value} {w : World} (h : FtJ W lw k (L 4) (L 9) (u 27) (u 32) w) : FtJ W lw k (also L 5 4) (also L 5 9) (upd u 28 v 27) (upd u 28 v 32) w := h
theorem FtJ.keep10 {W : World} {lw : List Nat} {k : Nat} {L : Nat → Bool} {u : Nat → Value} {v : Value} {w : World} (h : FtJ W lw k (L 4) (L 9) (u 27) (u 32) w) : FtJ W lw k (also L 10 4) (also L 10 9) (upd u 33 v 27) (upd u 33 v 32) w := h
theorem u8k {k : Nat} (h : k < 256) : IntKind.u8.wrap (k : Int) = (k : Int) := by
  have e : IntKind.u8.wrap (k : Int) = (k : Int) % 256 := by simp [IntKind.wrap, IntKind.signed, IntKind.bits]
  rw [e]
  omega
set_option maxHeartbeats 16000000 in
set_option maxRecDepth 100000 in
theorem rheader_any (kn : Int) (w0 : World) : Calls Tryd.prog 15 #[.int .i64 kn] w0 fun e w' => ∃ oa oc, e = .returned (.tuple #[.slice oa (Fr24.headF kn).1.length oc, .int .i64 (Fr24.headF kn).2]) ∧ Row8 w' oa (Fr24.headF kn).1.length oc (nums (Fr24.headF kn).1) ∧ Chg (fun _ => False) w0 w' := by
  have HKD : Hid _ := rkind_any kn w0
  by_cases hk : Fr24.kind kn = true
  · rw [Fr24.headF_0 hk]
    rw [hk] at HKD
    have hkl := Fr24.kind_lt hk
    obtain ⟨k, rfl⟩ : ∃ k : Nat, kn = (k : Int) := ⟨kn.toNat, by omega⟩
    rw [Int.toNat_natCast]
    have hk8 := u8k (k := k) (by omega)
    have HK8 : Hid (k < 256) := by show _ < _; omega
    have hsz1 : (sN [k]).size = 1 := sN_size _
    have hsz2 : (sN (Fr24.flags k)).size = 2 := sN_size _
    have hsz3 : (sN (Fr24.F6 ++ Fr24.flags k)).size = 8 := sN_size _
    have hsz4 : (sN (crc4 (Fr24.flags k))).size = 4 := sN_size _
    have ha1 : (ByteArray.mk #[0]) ++ sN [k] = sN (Fr24.flags k) := by
      rw [show (ByteArray.mk #[0]) = sN [0] from rfl, sN_app]
      rfl
    have ha2 : (ByteArray.mk #[253, 55, 122, 88, 90, 0]) ++ sN (Fr24.flags k) = sN (Fr24.F6 ++ Fr24.flags k) := by
      rw [show (ByteArray.mk #[253, 55, 122, 88, 90, 0]) = sN Fr24.F6 from rfl, sN_app]
    have ha3 : sN (Fr24.F6 ++ Fr24.flags k) ++ sN (crc4 (Fr24.flags k)) = sN (Fr24.headB k) := by
      rw [sN_app, List.append_assoc]
      rfl
    have HSM : Hid (∀ w, Calls Tryd.prog 31 #[.string (sN (Fr24.flags k))] w fun e w' => e = .returned (.string (sN (crc4 (Fr24.flags k)))) ∧ Chg (fun _ => False) w w') := fun w => rsum24_any _ w (Fr24.flags_dig HK8.out) (by show 2 ≤ _; omega)
    have hcv : (convert 22 9 (.slice (some ⟨w0.heap.size, 0, none⟩) 1 1)).run Tryd.prog (w0.alloc (.cells #[.int .u8 (k : Int)] 5)) = .ok (.string (sN [k])) (w0.alloc (.cells #[.int .u8 (k : Int)] 5)) := Bk.conv8_here (row8_lit24 w0 [k] 1 5 rfl #[.int .u8 (k : Int)] rfl)
    have HCA : Hid (Chg (fun _ => False) w0 (w0.alloc (.cells #[.int .u8 (k : Int)] 5))) := chg_one _ _
    have HTX : Hid (∀ w, ∃ cap w', (convert 9 22 (.string (sN (Fr24.headB k)))).run Tryd.prog w = .ok (.slice (some ⟨w.heap.size, 0, none⟩) 12 cap) w' ∧ Row8 w' (some ⟨w.heap.size, 0, none⟩) 12 cap (nums (Fr24.headB k)) ∧ 12 ≤ cap ∧ Chg (fun _ => False) w w') := fun w => by
      have h9 := conv_txt w (Fr24.headB k) (Fr24.headB_dig HK8.out)
      rw [Fr24.headB_len] at h9
      exact h9
    have hl12 := Fr24.headB_len k
    simp only [hl12]
    generalize sN [k] = S1 at *
    generalize sN (Fr24.flags k) = S2 at *
    generalize sN (Fr24.F6 ++ Fr24.flags k) = S3 at *
    generalize sN (crc4 (Fr24.flags k)) = S4 at *
    generalize sN (Fr24.headB k) = S5 at *
    clear hl12 hk
    go_enter Tryd.func15, Tryd.ntmps15
    go_wp2_with fail
    refine Calls.mono HKD.out ?_
    rintro z w1 ⟨rfl, rfl⟩
    go_upto_region 5 with fail
    generalize w1.alloc (.cells #[.int .u8 (k : Int)] 5) = w2 at *
    clear hcv HKD
    go_wp2_with fail
    refine Calls.mono (HSM.out w2) ?_
    rintro z w3 ⟨rfl, c3⟩
    obtain ⟨cap, w4, hcv4, hrow, hcap, c4⟩ := HTX.out w3
    have HC4 : Hid (Chg (fun _ => False) w1 w4) := chg_then (chg_then HCA.out c3) c4
    have HRW : Hid _ := hrow
    clear hrow hcap c3 c4 HTX HSM HCA ha1 ha2
    go_wp2
    go_ret2
    exact ⟨_, _, rfl, HRW.out, HC4.out⟩
  · rw [Fr24.headF_6 hk]
    rw [show Fr24.kind kn = false by simpa using hk] at HKD
    clear hk
    go_enter Tryd.func15, Tryd.ntmps15
    go_wp2_with fail
    refine Calls.mono HKD.out ?_
    rintro z w1 ⟨rfl, rfl⟩
    go_wp2
    go_ret2
    exact ⟨_, _, rfl, row8_nil _, Chg.refl _ _⟩
set_option maxHeartbeats 16000000 in
set_option maxRecDepth 100000 in
theorem rfooter_any (kn n : Int) (w0 : World) (hn : I64 n) : Calls Tryd.prog 16 #[.int .i64 kn, .int .i64 n] w0 fun e w' => ∃ oa oc, e = .returned (.tuple #[.slice oa (Fr24.footF kn n).1.length oc, .int .i64 (Fr24.footF kn n).2]) ∧ Row8 w' oa (Fr24.footF kn n).1.length oc (nums (Fr24.footF kn n).1) ∧ Chg (fun _ => False) w0 w' := by
  have HKD : Hid _ := rkind_any kn w0
  by_cases hk : Fr24.kind kn = true
  · rw [hk] at HKD
    have hkl := Fr24.kind_lt hk
    obtain ⟨k, rfl⟩ : ∃ k : Nat, kn = (k : Int) := ⟨kn.toNat, by omega⟩
    obtain ⟨n1, n2⟩ := hn
    by_cases hbad : n < 4 ∨ 17179869184 < n ∨ n % 4 ≠ 0
    · have e9 : Fr24.footF (k : Int) n = ([], 7) := by unfold Fr24.footF; rw [if_pos hk, if_pos hbad]
      rw [e9]
      clear hk e9 hkl
      go_enter Tryd.func16, Tryd.ntmps16
      go_wp2_with fail
      refine Calls.mono HKD.out ?_
      rintro z w1 ⟨rfl, rfl⟩
      clear HKD
      by_cases h4 : n < 4
      · have d4 : decide (n < 4) = true := decide_eq_true h4
        clear hbad
        go_wp2
        go_ret2
        exact ⟨_, _, rfl, row8_nil _, Chg.refl _ _⟩
      have d4 : decide (n < 4) = false := decide_eq_false h4
      by_cases hB : 17179869184 < n
      · have dB : decide (17179869184 < n) = true := decide_eq_true hB
        have dB' : decide (n > 17179869184) = true := decide_eq_true hB
        clear hbad
        go_wp2
        go_ret2
        exact ⟨_, _, rfl, row8_nil _, Chg.refl _ _⟩
      have dB : decide (17179869184 < n) = false := decide_eq_false hB
      have hm : n % 4 ≠ 0 := by omega
      have e4 : n.tmod 4 = n % 4 := Int.tmod_eq_emod_of_nonneg (by omega)
      obtain ⟨r, hr⟩ : ∃ r, n % 4 = r := ⟨_, rfl⟩
      have hr0 : r ≠ 0 := by omega
      have hr1 : 1 ≤ r := by omega
      have hr3 : r ≤ 3 := by omega
      have m4 : (r != 0) = true := by rw [bne_iff_ne]; exact hr0
      have m4b : (r == 0) = false := by rw [beq_eq_false_iff_ne]; exact hr0
      rw [hr] at e4
      clear hbad hm
      go_wp2
      go_ret2
      exact ⟨_, _, rfl, row8_nil _, Chg.refl _ _⟩
    · obtain ⟨N, rfl⟩ : ∃ N : Nat, n = (N : Int) := ⟨n.toNat, by omega⟩
      have h1 : 4 ≤ N := by omega
      have h2 : N ≤ 17179869184 := by omega
      have h3 : N % 4 = 0 := by omega
      rw [footF_0 hk h1 h2 h3]
      have hk8 := u8k (k := k) (by omega)
      have HK8 : Hid (k < 256) := by show _ < _; omega
      obtain ⟨Q, hQ⟩ : ∃ Q, N / 4 = Q := ⟨_, rfl⟩
      obtain ⟨V, hV⟩ : ∃ V, Q - 1 = V := ⟨_, rfl⟩
      obtain ⟨lw, hlw⟩ : ∃ l, Cq.Crc.low V 4 = l := ⟨_, rfl⟩
      have hl4 : lw.length = 4 := by rw [← hlw]; exact low_len _ _
      have HL4 : Hid ((Cq.Crc.low V 4).length = 4) := low_len _ _
      have HSX : Hid (Fr24.six k N = lw ++ Fr24.flags k) := by
        show _ = _
        unfold Fr24.six
        rw [hQ, hV, hlw]
      have HLO : Hid (∀ w, Calls Tryd.prog 32 #[.int .u64 (V : Int), .int .i64 4] w fun e w' => ∃ ov, e = .returned ov ∧ ByO w' w.heap.size ov (Cq.Crc.low V 4) ∧ Chg (fun _ => False) w w') := fun w => rlow24_any V w (by omega)
      rw [hlw] at HL4 HLO
      have hdl : Rc.Dig lw := by rw [← hlw]; exact low_dig _ _
      have hq : (N : Int) / 4 = (Q : Int) := by omega
      have hqt : (N : Int).tdiv 4 = (Q : Int) := by rw [Int.tdiv_eq_ediv_of_nonneg (by omega)]; exact hq
      have hv : (Q : Int) - 1 = (V : Int) := by omega
      have hQi : 1 ≤ (Q : Int) ∧ (Q : Int) ≤ 4294967296 := by omega
      have hVi : (V : Int) < 4294967296 := by omega
      have hNi : (N : Int) ≤ 17179869184 := by omega
      have dN4 : decide ((N : Int) < 4) = false := decide_eq_false (by omega)
      have dN4' : decide (N < 4) = false := decide_eq_false (by omega)
      have dNB : decide ((17179869184 : Int) < (N : Int)) = false := decide_eq_false (by omega)
      have dNB' : decide (17179869184 < N) = false := decide_eq_false (by omega)
      have m4 : (N : Int) % 4 = 0 := by omega
      have m4t : (N : Int).tmod 4 = 0 := by rw [Int.tmod_eq_emod_of_nonneg (by omega)]; exact m4
      have hsz1 : (sN lw).size = 4 := by rw [sN_size, hl4]
      have hsz2 : (sN (lw ++ [0])).size = 5 := by rw [sN_size, List.length_append, hl4]; rfl
      have hszK : (sN [k]).size = 1 := sN_size _
      have hsz3 : (sN (Fr24.six k N)).size = 6 := by rw [sN_size, Fr24.six_len]
      have hsz4 : (sN (crc4 (Fr24.six k N))).size = 4 := by rw [sN_size, crc4_len]
      have hsz5 : (sN (crc4 (Fr24.six k N) ++ Fr24.six k N)).size = 10 := by rw [sN_size, List.length_append, crc4_len, Fr24.six_len]
      have ha1 : sN lw ++ (ByteArray.mk #[0]) = sN (lw ++ [0]) := by
        rw [show (ByteArray.mk #[0]) = sN [0] from rfl, sN_app]
      have ha2 : sN (lw ++ [0]) ++ sN [k] = sN (Fr24.six k N) := by
        rw [sN_app, HSX.out, List.append_assoc]
        rfl
      have ha3 : sN (crc4 (Fr24.six k N)) ++ sN (Fr24.six k N) = sN (crc4 (Fr24.six k N) ++ Fr24.six k N) := sN_app _ _
      have ha4 : sN (crc4 (Fr24.six k N) ++ Fr24.six k N) ++ (ByteArray.mk #[89, 90]) = sN (Fr24.footB k N) := by
        rw [show (ByteArray.mk #[89, 90]) = sN Fr24.E2 from rfl, sN_app, List.append_assoc]
        rfl
      have HSM : Hid (∀ w, Calls Tryd.prog 31 #[.string (sN (Fr24.six k N))] w fun e w' => e = .returned (.string (sN (crc4 (Fr24.six k N)))) ∧ Chg (fun _ => False) w w') := fun w => rsum24_any _ w (Fr24.six_dig HK8.out) (by rw [Fr24.six_len]; omega)
      have HTX : Hid (∀ w, ∃ cap w', (convert 9 22 (.string (sN (Fr24.footB k N)))).run Tryd.prog w = .ok (.slice (some ⟨w.heap.size, 0, none⟩) 12 cap) w' ∧ Row8 w' (some ⟨w.heap.size, 0, none⟩) 12 cap (nums (Fr24.footB k N)) ∧ 12 ≤ cap ∧ Chg (fun _ => False) w w') := fun w => by
        have h9 := conv_txt w (Fr24.footB k N) (Fr24.footB_dig HK8.out)
        rw [Fr24.footB_len] at h9
        exact h9
      have hl12 := Fr24.footB_len k N
      simp only [hl12]
      obtain ⟨S1, hS1⟩ : ∃ s, sN lw = s := ⟨_, rfl⟩
      have HS1 : Hid (sN lw = S1) := hS1
      obtain ⟨SK, hSK⟩ : ∃ s, sN [k] = s := ⟨_, rfl⟩
      have HSK : Hid (sN [k] = SK) := hSK
      rw [hS1] at hsz1 ha1
      rw [hSK] at hszK ha2
      clear hS1 hSK
      generalize sN (lw ++ [0]) = S2 at *
      generalize sN (Fr24.six k N) = S3 at *
      generalize sN (crc4 (Fr24.six k N)) = S4 at *
      generalize sN (crc4 (Fr24.six k N) ++ Fr24.six k N) = S5 at *
      generalize sN (Fr24.footB k N) = S6 at *
      have HKD2 : Hid (k < 256) := HK8
      clear hl12 hk hbad h1 h2 h3 hQ hV hlw hl4 hdl HSX HK8 n1 n2 hkl
      go_enter Tryd.func16, Tryd.ntmps16
      go_wp2_with fail
      refine Calls.mono HKD.out ?_
      rintro z w1 ⟨rfl, rfl⟩
      have HKDD : Hid (k < 256) := HKD2
      clear HKD
      have HKD : Hid (k < 256) := HKDD
      clear HKDD HKD2
      go_upto_region 6 with fail
      refine wp_region_set (mk := fun u => #[_, _, _, _, _, _, _, _, _, _, _, _, _, _, _, _, _, _, _, _, _, _, _, u 23, u 24, u 25, u 26, u 27, u 28, u 29, u 30, u 31, u 32, u 33, u 34, _, _, _, _, _, _]) (G := lookG [(23, .int .i64 (N : Int)), (24, .int .i64 (Q : Int)), (25, .int .i64 (V : Int)), (26, .int .u64 (V : Int)), (28, .string S1), (29, .string S2), (30, .int .i64 (k : Int)), (31, .int .u8 (k : Int)), (33, .string SK), (34, .string S3)]) (J := fun L u ww => FtJ w1 lw k (L 4) (L 9) (u 27) (u 32) ww) [4, 5, 9, 10] ([]) (fun _ => undef) rfl (by kernel_rfl) 12 _ rfl rfl (by kernel_rfl) (by kernel_rfl) ?_ ?_ ?_ ?_ ?_
      · repeat (refine ⟨fun _ _ => rfl, ?_⟩)
        exact trivial
      · intro L L2 u u2 ww h hj
        have e27 : u 27 = u2 27 := (h 4 (by decide)).2
        have e32 : u 32 = u2 32 := (h 9 (by decide)).2
        have l4 : L 4 = L2 4 := (h 4 (by decide)).1
        have l9 : L 9 = L2 9 := (h 9 (by decide)).1
        show FtJ _ _ _ _ _ _ _ _
        rw [← e27, ← e32, ← l4, ← l9]
        exact hj
      · exact ⟨(Chg.refl _ w1).drew, (fun h => nomatch h), (fun h => nomatch h)⟩
      · refine ⟨?_, ?_, ?_, ?_, ?_, ?_, ?_, ?_, ?_, ?_, ?_, ?_, trivial⟩
        · show StepRS _ _ _ _ _ _ _ _ -- 23
          unfold StepRS
          intro L u w_ hj hd K hK
          clear hd
          clear hj
          go_simp
          exact hK.out _ rfl
        · show StepRS _ _ _ _ _ _ _ _ -- 24
          unfold StepRS
          intro L u w_ hj hd K hK
          have h23 : u 23 = .int .i64 (N : Int) := hd.get 0 (by kernel_rfl)
          clear hd
          simp only [h23] at hK
          clear hj
          go_simp
          rw [wr64 (by omega) (by omega)]
          exact hK.out _ rfl
        · show StepRS _ _ _ _ _ _ _ _ -- 25
          unfold StepRS
          intro L u w_ hj hd K hK
          have h24 : u 24 = .int .i64 (Q : Int) := hd.get 1 (by kernel_rfl)
          clear hd
          simp only [h24] at hK
          clear hj
          go_simp
          rw [wr64 (by omega) (by omega)]
          exact hK.out _ rfl
        · show StepRS _ _ _ _ _ _ _ _ -- 26
          unfold StepRS
          intro L u w_ hj hd K hK
          have h25 : u 25 = .int .i64 (V : Int) := hd.get 2 (by kernel_rfl)
          clear hd
          simp only [h25] at hK
          clear hj
          go_simp
          rw [w64x (by omega) (by omega)]
          exact hK.out _ rfl
        · show StepWS _ _ _ _ _ _ _ _ _ -- 27
          unfold StepWS
          intro L u w_ hj hli hwt hd K hK
          have h26 : u 26 = .int .u64 (V : Int) := hd.get 3 (by kernel_rfl)
          clear hd
          simp only [h26] at hK
          have HJ : Hid _ := hj
          clear hj hwt hli
          go_simp
          go_at_call 32
          refine Calls.mono (HLO.out w_) ?_
          rintro z w2 ⟨ov, rfl, ho, c2⟩
          obtain ⟨oa, oc, rfl⟩ := byO_form ho
          rw [HL4.out] at ho ⊢
          exact hK.out _ w2 (HJ.out.set4 c2 (byO_row ho).1) trivial
        · show StepWS _ _ _ _ _ _ _ _ _ -- 28
          unfold StepWS
          intro L u w_ hj hli hwt hd K hK
          clear hd
          have HJ : Hid _ := hj
          have hl := hwt { on := 4, ground := .data } (by simp) (by kernel_rfl)
          obtain ⟨oa, oc, e27, hrow⟩ := hj.h4 hl
          have hcv := Bk.conv8_here hrow
          rw [show strOfNums (nums lw) = S1 from HS1.out] at hcv
          clear hj hwt hli hl hrow
          simp only [e27] at hK ⊢
          clear e27
          go_simp
          exact hK.out _ _ (HJ.out.keep5) rfl
        · show StepRS _ _ _ _ _ _ _ _ -- 29
          unfold StepRS
          intro L u w_ hj hd K hK
          have h28 : u 28 = .string S1 := hd.get 5 (by kernel_rfl)
          clear hd
          simp only [h28] at hK
          clear hj
          go_simp
          exact hK.out _ rfl
        · show StepRS _ _ _ _ _ _ _ _ -- 30
          unfold StepRS
          intro L u w_ hj hd K hK
          clear hd
          clear hj
          go_simp
          exact hK.out _ rfl
        · show StepRS _ _ _ _ _ _ _ _ -- 31
          unfold StepRS
          intro L u w_ hj hd K hK
          have h30 : u 30 = .int .i64 (k : Int) := hd.get 7 (by kernel_rfl)
          clear hd
          simp only [h30] at hK
          clear hj
          go_simp
          exact hK.out _ rfl
        · show StepWS _ _ _ _ _ _ _ _ _ -- 32
          unfold StepWS
          intro L u w_ hj hli hwt hd K hK
          have h31 : u 31 = .int .u8 (k : Int) := hd.get 8 (by kernel_rfl)
          clear hd
          simp only [h31] at hK
          have HJ : Hid _ := hj
          clear hj hwt hli
          go_simp
          exact hK.out _ _ (HJ.out.set9 HKD.out) trivial
        · show StepWS _ _ _ _ _ _ _ _ _ -- 33
          unfold StepWS
          intro L u w_ hj hli hwt hd K hK
          clear hd
          have HJ : Hid _ := hj
          have hl := hwt { on := 9, ground := .data } (by simp) (by kernel_rfl)
          obtain ⟨b, e32, hrow⟩ := hj.h9 hl
          have hcv := Bk.conv8_here hrow
          rw [show strOfNums (nums [k]) = SK from HSK.out] at hcv
          clear hj hwt hli hl hrow
          simp only [e32] at hK ⊢
          clear e32
          go_simp
          exact hK.out _ _ (HJ.out.keep10) rfl
        · show StepRS _ _ _ _ _ _ _ _ -- 34
          unfold StepRS
          intro L u w_ hj hd K hK
          have h29 : u 29 = .string S2 := hd.get 6 (by kernel_rfl)
          have h33 : u 33 = .string SK := hd.get 10 (by kernel_rfl)
          clear hd
          simp only [h29, h33] at hK
          clear hj
          go_simp
          exact hK.out _ rfl
      · intro u w7 hj hA K hK
        have HJ : Hid _ := hj.ch
        have e34 : u 34 = .string S3 := hA.at 34 (by kernel_rfl)
        clear hj hA
        simp only [e34] at hK ⊢
        clear e34
        go_simp
        refine hK.out _ _ ?_
        clear hK ha1 ha2 HLO hq hqt hv m4 m4t
        go_wp2_with fail
        refine Calls.mono (HSM.out w7) ?_
        rintro z w3 ⟨rfl, c3⟩
        obtain ⟨cap, w4, hcv4, hrow, hcap, c4⟩ := HTX.out w3
        have HC4 : Hid (Chg (fun _ => False) w1 w4) := chg_then (chg_then HJ.out c3) c4
        have HRW : Hid _ := hrow
        clear hrow hcap c3 c4 HTX HSM
        go_wp2
        go_ret2
        exact ⟨_, _, rfl, HRW.out, HC4.out⟩
  · have e9 : Fr24.footF kn n = ([], 6) := by unfold Fr24.footF; rw [if_neg hk]
    rw [e9]
    rw [show Fr24.kind kn = false by simpa using hk] at HKD
    clear hk e9 hn
    go_enter Tryd.func16, Tryd.ntmps16
    go_wp2_with fail
    refine Calls.mono HKD.out ?_
    rintro z w1 ⟨rfl, rfl⟩
    go_wp2
    go_ret2
    exact ⟨_, _, rfl, row8_nil _, Chg.refl _ _⟩
end Go.Proofs.YtikokgngkagieaaDoor
