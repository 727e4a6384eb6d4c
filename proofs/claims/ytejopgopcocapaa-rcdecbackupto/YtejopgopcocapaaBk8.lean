/- The walk of RcdecBack above what is asked of the decoder; of no statement by itself. -/
import Derived.Test.YtejopgopcocapaaBm
namespace Go.Proofs.Ytejopgopcocapaa
open Go.RowKit
set_option linter.unusedVariables false

set_option maxHeartbeats 8000000 in
set_option maxRecDepth 100000 in
theorem back_any {Dec : World → Nat → Nat → Value → List Nat → Rc.D → Prop} (S : DecSpec Dec) (n : Int) (av : Option Addr) (L cv : Nat) (l : List Q) (ta : Option Addr) (tn tc : Nat) (ts : List Nat) (w0 : World) (hA : Asks w0 av l) (hL : l.length = L) (hl : L ≤ 1048576) (ht : Row8 w0 ta tn tc (nums ts)) (htd : Rc.Dig ts) (htn : tn ≤ 1099511627776) : Calls Try.prog 5 #[.int .i64 n, .slice av L cv, .slice ta tn tc] w0 fun x w' => x = .returned (.bool true) ∧ Chg (fun _ => False) w0 w' := by
  have HA0 : Hid (Asks w0 av l) := hA
  have HLL : Hid (l.length = L) := hL
  have HTB : Hid (Row8 w0 ta tn tc (nums ts)) := ht
  clear hA hL ht
  by_cases hn0 : n < 0
  · go_enter Try.func5, Try.ntmps5
    go_wp2_with fail
    refine (known_any S _).mono ?_
    rintro z w1 ⟨rfl, c1⟩
    go_wp2
    go_ret
    exact ⟨rfl, c1⟩
  by_cases hn64 : 64 < n
  · have hd0 : decide (n < 0) = false := by simp; omega
    go_enter Try.func5, Try.ntmps5
    go_wp2_with fail
    refine (known_any S _).mono ?_
    rintro z w1 ⟨rfl, c1⟩
    go_wp2
    go_ret
    exact ⟨rfl, c1⟩
  obtain ⟨N, rfl⟩ := Int.eq_ofNat_of_zero_le (show 0 ≤ n by omega)
  have hd0 : decide ((N : Int) < 0) = false := by simp
  have hd1 : decide ((64 : Int) < (N : Int)) = false := by simp; omega
  clear hn0
  go_enter Try.func5, Try.ntmps5
  go_wp2_with fail
  refine (encoded_any N av L cv l _ HA0.out HLL.out (by omega) (by omega)).mono ?_
  rintro z w3 ⟨bv, l3, a3, s, v3, u, rfl, hob, hA8⟩
  obtain ⟨F, hF⟩ : ∃ F, (encL l Rc.start (List.replicate N 1024)).1 = F := ⟨_, rfl⟩
  have HFK : Hid (F.k ≤ 32 * L) := by have h9 := hA8.le; rw [hF] at h9; exact h9
  obtain ⟨m, hm⟩ : ∃ m, may N (l.take L) = m := ⟨_, rfl⟩
  have hml0 : m = may N l := by rw [← hm, List.take_of_length_le (by rw [HLL.out]; exact Nat.le_refl _)]
  have HEM : Hid (encL m Rc.start (List.replicate N 1024) = encL l Rc.start (List.replicate N 1024)) := by show _ = _; rw [hml0]; exact encL_may N l _ _ (by simp)
  have HALL : Hid (∀ q ∈ m, q.ok N) := fun q hq => by rw [hml0] at hq; have := (List.mem_filter.1 hq).2; simpa using this
  obtain ⟨M, hM⟩ : ∃ M, m.length = M := ⟨_, rfl⟩
  have hML : M ≤ L := by rw [← hM, ← hm]; exact may_len N l L
  have hec := hA8.ec
  rw [hm] at hec
  have hrow := hec.row
  rw [hM] at hrow
  obtain ⟨la, lc, hl3⟩ := form4 hrow
  subst hl3
  rw [hF] at hob
  obtain ⟨K, hK⟩ : ∃ K, F.k + 5 = K := ⟨_, rfl⟩
  rw [hK] at hob
  obtain ⟨ba, bc, hbv⟩ := form1 hob
  subst hbv
  have hK5 : ¬ ((K : Int) < 5) := by omega
  have hdK : decide ((K : Int) < 5) = false := by simp; omega
  have hKm : K ≤ 33554437 := by have := HFK.out; omega
  have HAS3 : Hid (Asks w3 la m) := asks_own hrow hec.small
  have HST3 : Hid (St w3 w0.heap.size s u (encL l Rc.start (List.replicate N 1024)).2) := hec.st
  have HIN3 : Hid (In31 (encL l Rc.start (List.replicate N 1024)).2) := hec.inn
  have HLN3 : Hid ((encL l Rc.start (List.replicate N 1024)).2.length = N) := hA8.len
  have HC3 : Hid (Chg (fun _ => False) w0 w3) := hec.chg
  have cG := chg_one w3 (.cells #[.slice none 0 0, .slice ta tn tc] 22)
  have HG : Hid ((w3.alloc (.cells #[.slice none 0 0, .slice ta tn tc] 22)).heap[w3.heap.size]? = some (.cells #[.slice none 0 0, .slice ta tn tc] 22 (0, 0))) := heap_alloc_last w3 _
  have HOB : Hid ((w3.alloc (.cells #[.slice none 0 0, .slice ta tn tc] 22)).ownsRow w0.heap.size 5 1 (.slice ba K bc) K (ins .u8 (nums (Rc.by_ F)))) := ownsRow_keep hob cG (fun _ _ f => f)
  have HC4 : Hid (Chg (fun _ => False) w0 (w3.alloc (.cells #[.slice none 0 0, .slice ta tn tc] 22))) := chg_then HC3.out cG
  have HAS : Hid (Asks (w3.alloc (.cells #[.slice none 0 0, .slice ta tn tc] 22)) la m) := HAS3.out.new cG
  have HST : Hid (St (w3.alloc (.cells #[.slice none 0 0, .slice ta tn tc] 22)) w0.heap.size s u (encL l Rc.start (List.replicate N 1024)).2) := HST3.out.new cG
  have HFF : Hid ((encL l Rc.start (List.replicate N 1024)).1 = F) := hF
  have HMM : Hid (m.length = M) := hM
  have HKK : Hid (F.k + 5 = K) := hK
  clear cG hrow hec hA8 hob hml0 hF hm hM hK HAS3 HST3 HC3
  go_upto_region 7 with fail
  generalize w3.alloc (.cells #[.slice none 0 0, .slice ta tn tc] 22) = w4 at *
  generalize w3.heap.size = G at *
  go_loopw [52] (fun iv wr => ∃ r : Nat, r ≤ 2 ∧ iv = .int .i64 (r : Int) ∧ Hid (Chg (fun _ => False) w4 wr)) (fun iv _ => 2 - (intOf iv).toNat)
  case atStart => exact ⟨0, by omega, rfl, Chg.refl _ _⟩
  case round =>
    obtain ⟨r, hr, rfl, HCO⟩ := hrel
    by_cases hr2 : r < 2
    · have HM : Hid (∃ ma mn mc mt, wr.cell? ⟨G, r, none⟩ = some (.slice ma mn mc) ∧ Row8 wr ma mn mc (nums mt) ∧ Rc.Dig mt ∧ mn ≤ 1099511627776 ∧ mt.length = mn) := by
        obtain ⟨z0, z1⟩ : wr.cell? ⟨G, 0, none⟩ = some (.slice none 0 0) ∧ wr.cell? ⟨G, 1, none⟩ = some (.slice ta tn tc) := ⟨cell_chg (cell0 HG.out) HCO.out, cell_chg (cell1 HG.out) HCO.out⟩
        match r, hr2 with
        | 0, _ => exact ⟨none, 0, 0, [], z0, ⟨rfl, .inl ⟨rfl, rfl, rfl⟩⟩, fun x hx => (List.not_mem_nil hx).elim, by omega, rfl⟩
        | 1, _ => exact ⟨ta, tn, tc, ts, z1, Bk.row8_chg HTB.out (chg_then HC4.out HCO.out), htd, htn, by have := HTB.out.1; rw [nums_len] at this; exact this⟩
      obtain ⟨ma, mn, mc, mt, hmc, hmr, hmd, hmn, hml⟩ := HM
      have HMR : Hid (Row8 wr ma mn mc (nums mt)) := hmr
      clear hmr
      obtain ⟨iu, hiu, hu0, hu1, hu2⟩ := info_parts infoU8
      have cE := chg_one wr (.cells #[] 5)
      have hoE := own_empty wr 5
      have hFb := own_from (ownsRow_keep HOB.out (chg_then HCO.out cE) (fun _ _ f => f))
      have honeb := ins_one .u8 (nums (Rc.by_ F))
      have HCE : Hid (Chg (fun _ => False) wr (wr.alloc (.cells #[] 5))) := cE
      clear cE
      go_wp2_with (at_builtin; refine wpList_append_moved rfl _ _ 22 rfl wr.heap.size 5 iu (.int .u8 0) 1 1 Try.underlying22 hiu hu0 hu1 hu2 rfl (by decide) _ 0 [] rfl ba K bc rfl (ins .u8 (nums (Rc.by_ F))) hoE hFb honeb (by unfold maxLen; omega) (by omega) HCE.out.size ?_)
      intro v5 w5 ho5 hg5 _
      have c5 : Chg (fun _ => False) wr w5 := HCE.out.grown hg5 (fun k e => .inr (by cases e; exact Nat.le_refl _))
      have ho5' : w5.ownsRow wr.heap.size 5 1 v5 K (ins .u8 (nums (Rc.by_ F))) := by simpa using ho5
      obtain ⟨a5, q5, hv5⟩ := form1 ho5'
      subst hv5
      have hFm := (Bk.row8_chg HMR.out c5).src
      have honem := ins_one .u8 (nums mt)
      have HC5 : Hid (Chg (fun _ => False) wr w5) := c5
      clear ho5 hg5 hoE hFb c5
      go_wp2_with (at_builtin; refine wpList_append_moved rfl _ _ 22 rfl wr.heap.size 5 iu (.int .u8 0) 1 1 Try.underlying22 hiu hu0 hu1 hu2 rfl (by decide) _ K (ins .u8 (nums (Rc.by_ F))) rfl ma mn mc rfl (ins .u8 (nums mt)) ho5' hFm honem (by unfold maxLen; omega) (by omega) HC5.out.size ?_)
      intro v6 w6 ho6 hg6 _
      have c6 : Chg (fun _ => False) wr w6 := HC5.out.grown hg6 (fun k e => .inr (ho5'.lt k e).1)
      have ho6' : w6.ownsRow wr.heap.size 5 1 v6 (K + mn) (ins .u8 (nums (Rc.by_ F ++ mt))) := by simpa [ins, nums] using ho6
      obtain ⟨a6, q6, hv6⟩ := form1 ho6'
      subst hv6
      have HRC : Hid (Row8 w6 a6 (K + mn) q6 (nums (Rc.by_ F ++ mt))) := row8_own ho6'
      have HC6 : Hid (Chg (fun _ => False) wr w6) := c6
      clear ho5' ho6 ho6' hg6 hFm c6 hmc
      have hst := Bw.start (l := m) (n := N) mt hmd
      simp only [HEM.out, HFF.out] at hst
      obtain ⟨s1, s2, s3, s4, s5⟩ := hst
      obtain ⟨c, hc⟩ : ∃ c, c = Rc.by_ F ++ mt := ⟨_, rfl⟩
      rw [← hc] at HRC s1 s2 s3 s4 s5
      have HCC : Hid (c = Rc.by_ (encL m Rc.start (List.replicate N 1024)).1 ++ mt) := by show c = _; rw [HEM.out, HFF.out]; exact hc
      have HCL : Hid (c.length = K + mn) := by show _ = _; rw [hc, List.length_append, hml, show (Rc.by_ F).length = F.k + 5 from Rc.dg_len _ _, HKK.out]
      have HB0 : Hid (Bw c m N F 0 ⟨5, 4294967295, Rc.code5 c⟩ (List.replicate N 1024)) := s5
      have HS12 : Hid (c.getD 0 0 = 0 ∧ Rc.code5 c < 4294967295 ∧ 5 ≤ c.length) := ⟨s1, s2, s4⟩
      clear hc s1 s2 s4 s5
      go_wp2_with fail
      refine (S.new a6 (K + mn) q6 c _ HRC.out s3 (by omega)).mono ?_
      rintro z w7 (⟨h1, rfl, c7⟩ | ⟨h1, h2, rfl, c7⟩ | ⟨h1, h2, h3, a, v, rfl, hD7, c7⟩)
      · exfalso; have := HS12.out.2.2; omega
      · exfalso; rcases h2 with h2 | h2; exact h2 HS12.out.1; have := HS12.out.2.1; omega
      have HD7 : Hid (Dec w7 w6.heap.size a v c ⟨5, 4294967295, Rc.code5 c⟩) := hD7
      have HC7 : Hid (Chg (fun _ => False) w6 w7) := c7
      clear hD7 c7 h1 h2 h3
      go_wp2_with fail
      refine (new_in N _ (by omega)).mono ?_
      rintro z w8 ⟨t, ut, rfl, ht, hT8, c8⟩
      have HT8 : Hid (St w8 w6.heap.size t ut (List.replicate N 1024)) := ⟨Nat.le_trans HC7.out.size ht, hT8.blk, owns_base hT8.own HC7.out.size⟩
      have HD8 : Hid (Dec w8 w6.heap.size a v c ⟨5, 4294967295, Rc.code5 c⟩) := S.keep HD7.out c8 (fun f => f) (fun _ _ f => f)
      have HC8 : Hid (Chg (fun _ => False) w6 w8) := chg_then HC7.out c8
      clear hT8 c8 ht HD7 HC7
      go_wp2_with fail
      refine (num_any _ _).mono ?_
      rintro z w9 ⟨rfl, rfl⟩
      go_wp2_with fail
      refine (num_any _ _).mono ?_
      rintro z w9 ⟨rfl, rfl⟩
      go_wp2_with fail
      go_loopw [88] (fun iv wi => ∃ (k : Nat) (d : Rc.D) (xs : List Int), k ≤ M ∧ iv = .int .i64 (k : Int) ∧ Hid (Chg (fun _ => False) w6 wi ∧ Dec wi w6.heap.size a v c d ∧ St wi w6.heap.size t ut xs ∧ Bw c m N F k d xs)) (fun iv _ => M - (intOf iv).toNat)
      case atStart => exact ⟨0, _, _, Nat.zero_le _, rfl, HC8.out, HD8.out, HT8.out, HB0.out⟩
      case round =>
        clear HC8 HD8 HT8
        obtain ⟨k, d, xs, hk, rfl, HI⟩ := hrel
        by_cases hkM : k < M
        · obtain ⟨q, hq⟩ : ∃ q, m[k]? = some q := ⟨_, List.getElem?_eq_getElem (by rw [HMM.out]; exact hkM)⟩
          obtain ⟨b0, off, ea, h0, h1, h2, h3, hX⟩ := (HAS.out.new (chg_then HCO.out (chg_then HC6.out HI.out.1))) k q hq
          have hbw := HI.out.2.2.2
          rw [← HFF.out, ← HEM.out] at hbw
          obtain ⟨d', he, hb'⟩ := hbw.step mt HCC.out s3 HALL.out hq
          rw [HEM.out, HFF.out] at hb'
          have hqo := HALL.out q (List.mem_of_getElem? hq)
          obtain ⟨dd, I, N_, X⟩ := q
          subst ea
          have HB1 : Hid _ := hb'
          have cB := chg_one wr (.cells #[.bool dd, .int .i64 I, .int .i64 N_, .int .u32 (X : Int)] 40)
          have HI1 : Hid (Chg (fun _ => False) w6 (wr.alloc (.cells #[.bool dd, .int .i64 I, .int .i64 N_, .int .u32 (X : Int)] 40)) ∧ Dec (wr.alloc (.cells #[.bool dd, .int .i64 I, .int .i64 N_, .int .u32 (X : Int)] 40)) w6.heap.size a v c d ∧ St (wr.alloc (.cells #[.bool dd, .int .i64 I, .int .i64 N_, .int .u32 (X : Int)] 40)) w6.heap.size t ut xs) := ⟨chg_then HI.out.1 cB, S.keep HI.out.2.1 cB (fun f => f) (fun _ _ f => f), HI.out.2.2.1.new cB⟩
          have HOKD : Hid (OkD c d ∧ In31 xs) := ⟨HI.out.2.2.2.ok, HI.out.2.2.2.inn⟩
          have HBO : Hid ((wr.alloc (.cells #[.bool dd, .int .i64 I, .int .i64 N_, .int .u32 (X : Int)] 40)).heap[wr.heap.size]? = some (.cells #[.bool dd, .int .i64 I, .int .i64 N_, .int .u32 (X : Int)] 40 (0, 0))) := heap_alloc_last wr _
          clear cB hbw hb' hq HI
          go_upto_region 18 with fail
          clear h0 h1 h2 h3
          generalize wr.alloc (.cells #[.bool dd, .int .i64 I, .int .i64 N_, .int .u32 (X : Int)] 40) = W at *
          generalize wr.heap.size = O at *
          obtain ⟨o0, o1, o2, o3, _⟩ := rcells4 HBO.out
          cases dd with
          | true =>
            obtain ⟨i, rfl⟩ := Int.eq_ofNat_of_zero_le (show 0 ≤ N_ by simp [Q.ok] at hqo; omega)
            have hi32 : i ≤ 32 := by simp [Q.ok] at hqo; omega
            have HE : Hid (decA c ⟨true, I, (i : Int), X⟩ d xs = .ok (X % 2 ^ i, d', xs)) := he
            clear he
            go_wp2_with fail
            refine (S.dir _ a v c d (i : Int) _ HI1.out.2.1 HOKD.out.1 s3 (by rw [HCL.out]; omega) HI1.out.1.size).mono ?_
            rintro z w9 (⟨e, he, _⟩ | ⟨b, d2, he, rfl, hD9, c9⟩)
            · have h9 := HE.out
              rw [decA_dir_err he] at h9
              cases h9
            have h9 := HE.out
            rw [decA_dir_ok he] at h9
            simp only [Except.ok.injEq, Prod.mk.injEq] at h9
            obtain ⟨rfl, rfl, _⟩ := h9
            have HST9 : St w9 w6.heap.size t ut xs := HI1.out.2.2.keep c9 (fun f => by
              obtain ⟨cs, hb⟩ := S.blk HI1.out.2.1
              have h9 := HI1.out.2.2.blk
              rw [f] at h9
              exact ty_ne hb h9 (by decide)) (fun g eg f => by
              obtain ⟨cs, hb⟩ := S.blk HI1.out.2.1
              obtain ⟨cur, hcur⟩ := owns_blk HI1.out.2.2.own eg
              rw [f] at hcur
              exact ty_ne hb hcur (by decide))
            have HN : Hid (Chg (fun _ => False) w6 w9 ∧ Dec w9 w6.heap.size a v c d2 ∧ St w9 w6.heap.size t ut xs ∧ Bw c m N F (k + 1) d2 xs) := ⟨HI1.out.1.trans c9 (fun z f => .inr (by rw [f]; exact S.base HI1.out.2.1)), hD9, HST9, HB1.out⟩
            have n3 : w9.cell? ⟨O, 3, none⟩ = some (.int .u32 (X : Int)) := (rcells4 (blk_keep HBO.out c9 (fun f => by
              obtain ⟨cs, hb⟩ := S.blk HI1.out.2.1
              have h9 := HBO.out
              rw [f] at h9
              exact ty_ne hb h9 (by decide)))).2.2.2.1
            have HLW := low_any X i w9 hX hi32
            clear he
            generalize X % 2 ^ i = y at *
            have HLO : Hid (Calls Try.prog 17 #[.int .u32 (X : Int), .int .i64 (i : Int)] w9 fun e w' => e = .returned (.int .u32 (y : Int)) ∧ w9 = w') := HLW
            clear hD9 c9 HST9 o0 o1 o2 o3 HI1 HLW
            go_wp2_with fail
            refine (num_any _ _).mono ?_
            rintro z w10 ⟨rfl, rfl⟩
            go_wp2_with fail
            refine HLO.out.mono ?_
            rintro z w10 ⟨rfl, rfl⟩
            go_wp2_with fail
            go_roundw
            case rel => exact ⟨k + 1, d2, xs, by omega, by go_num, HN.out⟩
            case measure => simp [intOf]; omega
          | false =>
            have HE : Hid (decA c ⟨false, I, 0, 0⟩ d xs = .ok (X % 2 ^ 1, d', encX ⟨false, I, N_, X⟩ xs)) := he
            clear he
            go_wp2_with fail
            refine (S.bit _ _ a t v ut c d xs I _ HI1.out.2.1 HOKD.out.1 s3 (by rw [HCL.out]; omega) HI1.out.2.2 HOKD.out.2 HI1.out.1.size).mono ?_
            rintro z w9 (⟨e, he, _⟩ | ⟨b, d2, xs2, he, rfl, hD9, hS9, c9⟩)
            · rw [HE.out] at he
              cases he
            rw [HE.out] at he
            simp only [Except.ok.injEq, Prod.mk.injEq] at he
            obtain ⟨rfl, rfl, rfl⟩ := he
            have HN : Hid (Chg (fun _ => False) w6 w9 ∧ Dec w9 w6.heap.size a v c d' ∧ St w9 w6.heap.size t ut (encX ⟨false, I, N_, X⟩ xs) ∧ Bw c m N F (k + 1) d' (encX ⟨false, I, N_, X⟩ xs)) := ⟨HI1.out.1.trans c9 (fun z f => .inr (by
              rcases f with f | f
              · rw [f]; exact S.base HI1.out.2.1
              · exact (HI1.out.2.2.own.lt z f).1)), hD9, hS9, HB1.out⟩
            have n3 : w9.cell? ⟨O, 3, none⟩ = some (.int .u32 (X : Int)) := (rcells4 (blk_keep HBO.out c9 (fun f => by
              rcases f with f | f
              · obtain ⟨cs, hb⟩ := S.blk HI1.out.2.1
                have h9 := HBO.out
                rw [f] at h9
                exact ty_ne hb h9 (by decide)
              · obtain ⟨cur, hcur⟩ := owns_blk HI1.out.2.2.own f
                exact ty_ne HBO.out hcur (by decide)))).2.2.2.1
            have hy2 : X % 2 ^ 1 < 2 := by omega
            have HLW := low_any X 1 w9 hX (by omega)
            generalize X % 2 ^ 1 = y at *
            have hy3 : (y : Int) < 2 := by omega
            have hwm : IntKind.u32.wrap (y : Int) = (y : Int) := by simp [IntKind.wrap, IntKind.signed, IntKind.bits]; omega
            have HLO : Hid (Calls Try.prog 17 #[.int .u32 (X : Int), .int .i64 1] w9 fun e w' => e = .returned (.int .u32 (y : Int)) ∧ w9 = w') := HLW
            clear hD9 hS9 c9 o0 o1 o2 o3 HI1 HLW
            go_wp2_with fail
            refine (num_any _ _).mono ?_
            rintro z w10 ⟨rfl, rfl⟩
            go_wp2_with fail
            refine HLO.out.mono ?_
            rintro z w10 ⟨rfl, rfl⟩
            go_wp2_with fail
            go_roundw
            case rel => exact ⟨k + 1, d', _, by omega, by go_num, HN.out⟩
            case measure => simp [intOf]; omega
        · obtain rfl : k = M := by omega
          have hd9 : decide ((k : Int) < (k : Int)) = false := by simp
          have hbw : Bw c m N F m.length d xs := by rw [HMM.out]; exact HI.out.2.2.2
          rw [← HFF.out, ← HEM.out] at hbw
          obtain ⟨e1, e2, e3⟩ := hbw.end_
          rw [HEM.out] at e1 e3
          rw [HFF.out, HKK.out] at e1
          have hcE := chg_then HCO.out (chg_then HC6.out HI.out.1)
          have HSE0 : Hid (St wr w0.heap.size s u (encL l Rc.start (List.replicate N 1024)).2) := HST.out.new hcE
          have HTE0 : Hid (St wr w6.heap.size t ut (encL l Rc.start (List.replicate N 1024)).2) := by have h9 := HI.out.2.2.1; rw [e3] at h9; exact h9
          have HDE : Hid (Dec wr w6.heap.size a v c d) := HI.out.2.1
          have HCE0 : Hid (Chg (fun _ => False) w4 wr) := hcE
          have HDN : Hid (d.n = K) := e1
          have HDC : Hid (d.C = 0) := e2
          clear hbw e1 e2 e3 hcE HI
          go_wp2_with fail
          refine (S.used _ a v c d _ HDE.out).mono ?_
          rintro z w10 ⟨rfl, c10⟩
          rw [HDN.out]
          have HD10 : Hid (Dec w10 w6.heap.size a v c d) := S.keep HDE.out c10 (fun f => f) (fun _ _ f => f)
          have HS10 : Hid (St w10 w0.heap.size s u (encL l Rc.start (List.replicate N 1024)).2) := HSE0.out.new c10
          have HT10 : Hid (St w10 w6.heap.size t ut (encL l Rc.start (List.replicate N 1024)).2) := HTE0.out.new c10
          have HCF0 : Hid (Chg (fun _ => False) w4 w10) := chg_then HCE0.out c10
          clear c10 HDE HSE0 HTE0 HCE0
          by_cases hmn0 : mn = 0
          · have hdn : decide (d.n = c.length ∧ d.C = 0) = true := by rw [HDN.out, HDC.out, HCL.out, hmn0]; simp
            subst hmn0
            go_wp2_with fail
            refine (S.done _ a v c d _ HD10.out).mono ?_
            rintro z w11 ⟨rfl, c11⟩
            rw [hdn]
            have HSE : Hid (St w11 w0.heap.size s u (encL l Rc.start (List.replicate N 1024)).2) := HS10.out.new c11
            have HTE : Hid (St w11 w6.heap.size t ut (encL l Rc.start (List.replicate N 1024)).2) := HT10.out.new c11
            have HCF : Hid (Chg (fun _ => False) w4 w11) := chg_then HCF0.out c11
            clear c11 HS10 HT10 HCF0 HD10 hdn
            go_wp2_with fail
            go_loopw [23] (fun iv w12 => ∃ i : Nat, i ≤ N ∧ iv = .int .i64 (i : Int) ∧ w11 = w12) (fun iv _ => N - (intOf iv).toNat)
            case atStart => exact ⟨0, Nat.zero_le _, rfl, rfl⟩
            case round =>
              obtain ⟨i, hi, rfl, rfl⟩ := hrel
              by_cases hiN : i < N
              · go_wp2_with fail
                refine (at_in _ s u _ i _ HSE.out HIN3.out.inn (by rw [HLN3.out]; exact hiN)).mono ?_
                rintro z w12 ⟨rfl, rfl⟩
                go_wp2_with fail
                refine (at_in _ t ut _ i _ HTE.out HIN3.out.inn (by rw [HLN3.out]; exact hiN)).mono ?_
                rintro z w12 ⟨rfl, rfl⟩
                generalize (encL l Rc.start (List.replicate N 1024)).2[i]'(by rw [HLN3.out]; exact hiN) = p
                go_wp2_with fail
                refine (num_any _ _).mono ?_
                rintro z w12 ⟨rfl, rfl⟩
                go_wp2_with fail
                refine (num_any _ _).mono ?_
                rintro z w12 ⟨rfl, rfl⟩
                go_wp2_with fail
                go_roundw
                case rel => exact ⟨i + 1, by omega, by go_num, trivial⟩
                case measure => simp [intOf]; omega
              · have hdi : decide ((i : Int) < (N : Int)) = false := by simp; omega
                go_wp2_with fail
                go_roundw
                case rel => exact ⟨r + 1, by omega, by go_num, HCF.out⟩
                case measure => simp [intOf]; omega
          · have hdn : decide (d.n = c.length ∧ d.C = 0) = false := by rw [HDN.out, HDC.out, HCL.out]; simp; omega
            have hb0 : ((mn : Int) == 0) = false := beq_eq_false_iff_ne.2 (by omega)
            have hd0m : decide ((mn : Int) = 0) = false := by simp; omega
            have hpos : (0 : Int) < (mn : Int) := by omega
            go_wp2_with fail
            refine (S.done _ a v c d _ HD10.out).mono ?_
            rintro z w11 ⟨rfl, c11⟩
            rw [hdn]
            have HSE : Hid (St w11 w0.heap.size s u (encL l Rc.start (List.replicate N 1024)).2) := HS10.out.new c11
            have HTE : Hid (St w11 w6.heap.size t ut (encL l Rc.start (List.replicate N 1024)).2) := HT10.out.new c11
            have HCF : Hid (Chg (fun _ => False) w4 w11) := chg_then HCF0.out c11
            clear c11 HS10 HT10 HCF0 HD10 hdn
            go_wp2_with fail
            go_loopw [23] (fun iv w12 => ∃ i : Nat, i ≤ N ∧ iv = .int .i64 (i : Int) ∧ w11 = w12) (fun iv _ => N - (intOf iv).toNat)
            case atStart => exact ⟨0, Nat.zero_le _, rfl, rfl⟩
            case round =>
              obtain ⟨i, hi, rfl, rfl⟩ := hrel
              by_cases hiN : i < N
              · go_wp2_with fail
                refine (at_in _ s u _ i _ HSE.out HIN3.out.inn (by rw [HLN3.out]; exact hiN)).mono ?_
                rintro z w12 ⟨rfl, rfl⟩
                go_wp2_with fail
                refine (at_in _ t ut _ i _ HTE.out HIN3.out.inn (by rw [HLN3.out]; exact hiN)).mono ?_
                rintro z w12 ⟨rfl, rfl⟩
                generalize (encL l Rc.start (List.replicate N 1024)).2[i]'(by rw [HLN3.out]; exact hiN) = p
                go_wp2_with fail
                refine (num_any _ _).mono ?_
                rintro z w12 ⟨rfl, rfl⟩
                go_wp2_with fail
                refine (num_any _ _).mono ?_
                rintro z w12 ⟨rfl, rfl⟩
                go_wp2_with fail
                go_roundw
                case rel => exact ⟨i + 1, by omega, by go_num, trivial⟩
                case measure => simp [intOf]; omega
              · have hdi : decide ((i : Int) < (N : Int)) = false := by simp; omega
                go_wp2_with fail
                go_roundw
                case rel => exact ⟨r + 1, by omega, by go_num, HCF.out⟩
                case measure => simp [intOf]; omega
    · obtain rfl : r = 2 := by omega
      have HCZ : Hid (Chg (fun _ => False) w0 wr) := chg_then HC4.out HCO.out
      go_wp2_with fail
      refine (known_any S _).mono ?_
      rintro z w9 ⟨rfl, c9⟩
      have HCY : Hid (Chg (fun _ => False) w0 w9) := chg_then HCZ.out c9
      clear c9
      go_wp2
      go_ret
      exact ⟨rfl, HCY.out⟩
end Go.Proofs.Ytejopgopcocapaa
