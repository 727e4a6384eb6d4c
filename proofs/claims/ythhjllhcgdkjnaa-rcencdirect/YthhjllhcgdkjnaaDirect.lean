/- The walk through RcencDirect; of no statement by itself. -/
import Derived.Test.YthhjllhcgdkjnaaArgs
import Derived.Deep.DeepCutAuto
namespace Go.Proofs.Ythhjllhcgdkjnaa
open Go.RowKit
set_option linter.unusedVariables false

theorem dirs_all {x : Nat} : ∀ (m : Nat) {e : Rc.E} {n : Nat}, e.R = Rc.dirs n → e.k = n / 8 → (direct x m e).R = Rc.dirs (n + m) ∧ (direct x m e).k = (n + m) / 8
  | 0, e, n, h1, h2 => ⟨h1, h2⟩
  | m + 1, e, n, h1, h2 => by
    have h := Rc.direct_step h1 h2 (decide (x / 2 ^ m % 2 = 1))
    have h3 := dirs_all (x := x) m h.1 h.2
    rw [show n + 1 + m = n + (m + 1) by omega] at h3
    exact h3

set_option maxHeartbeats 8000000 in
set_option maxRecDepth 100000 in
theorem rcdirect_any (av : Option Addr) (n cv : Nat) (an : Option Addr) (m cn : Nat) (w0 : World) (hV : Words w0 av n) (hN : Ints w0 an m) (hn : n ≤ 35184372087808) (hln : n * 4 + 4096 ≤ 140737488355328) (hm : m ≤ 9223372036854775807) : Calls Try.prog 3 #[.slice av n cv, .slice an m cn] w0 fun e w' => e = .returned (.bool true) ∧ Chg (fun _ => False) w0 w' := by
  have HV : Hid (Words w0 av n) := hV
  have HN : Hid (Ints w0 an m) := hN
  clear hV hN
  go_enter Try.func3, Try.ntmps3
  go_wp2_with fail
  refine (rcnew_any _).mono ?_
  rintro x w1 ⟨a, rfl, ha, hE1, c1⟩
  have HE1 : Hid (Enc w1 w0.heap.size a (.slice none 0 0) Rc.start) := ⟨_, hE1, Rc.begin_is⟩
  have HC1 : Hid (Chg (fun _ => False) w0 w1) := c1
  have HA1 : Hid (a < w1.heap.size) := hE1.lt
  clear hE1 c1
  go_wp2_with fail
  refine (rcnew_any _).mono ?_
  rintro x w2 ⟨f, rfl, hf, hE2, c2⟩
  have HE2 : Hid (Enc w2 w0.heap.size a (.slice none 0 0) Rc.start) := HE1.out.new c2
  have HF2 : Hid (Enc w2 w0.heap.size f (.slice none 0 0) Rc.start) := ⟨_, ⟨Nat.le_trans HC1.out.size hf, hE2.blk, World.ownsRow_nil _ _ _ _⟩, Rc.begin_is⟩
  have HC2 : Hid (Chg (fun _ => False) w0 w2) := chg_then HC1.out c2
  have HD2 : Hid (Dis (Foot a (.slice none 0 0)) (Foot f (.slice none 0 0))) := fun z h1 h2 => by
    have := HA1.out
    rcases h1 with h1 | h1
    · rcases h2 with h2 | h2
      · omega
      · cases h2
    · cases h1
  clear hE2 c2 HE1 HC1 HA1
  go_wp2_with fail
  go_loopw [7, 22] (fun bv iv wr => ∃ (k bits : Nat) (e : Rc.E) (v' y' : Value), k ≤ n ∧ bits ≤ 32 * k ∧ iv = .int .i64 (k : Int) ∧ bv = .int .i64 (bits : Int) ∧ Hid (Enc wr w0.heap.size a v' e) ∧ Hid (Enc wr w0.heap.size f y' e) ∧ Hid (Dis (Foot a v') (Foot f y')) ∧ Hid (Rc.Ok e) ∧ Hid (e.R = Rc.dirs bits ∧ e.k = bits / 8) ∧ Hid (Chg (fun _ => False) w0 wr)) (fun _ iv _ => n - (intOf iv).toNat)
  case atStart => exact ⟨0, 0, Rc.start, _, _, Nat.zero_le _, Nat.zero_le _, rfl, rfl, HE2.out, HF2.out, HD2.out, Rc.start_ok, ⟨rfl, rfl⟩, HC2.out⟩
  case round =>
    clear HE2 HF2 HD2 HC2
    obtain ⟨k, bits, e, v', y', hk, hbits, rfl, rfl, HE, HF, HD, HO, HR, HC⟩ := hrel
    by_cases hlt : k < n
    · obtain ⟨b, off, ea, x, hx, hx2⟩ := (HV.out.new HC.out) k hlt
      subst ea
      have HX2 : Hid (x ≤ 4294967295) := hx2
      obtain ⟨K, hK32, hcase⟩ : ∃ K : Nat, K ≤ 32 ∧ ((m ≤ k ∧ K = 32) ∨ (k < m ∧ ∃ b2 off2, an = some ⟨b2, off2, none⟩ ∧ wr.cell? ⟨b2, off2 + k, none⟩ = some (.int .i64 (K : Int))) ∨ (k < m ∧ ∃ b2 off2 z, an = some ⟨b2, off2, none⟩ ∧ wr.cell? ⟨b2, off2 + k, none⟩ = some (.int .i64 z) ∧ z < 0 ∧ K = 32) ∨ (k < m ∧ ∃ b2 off2 z, an = some ⟨b2, off2, none⟩ ∧ wr.cell? ⟨b2, off2 + k, none⟩ = some (.int .i64 z) ∧ 32 < z ∧ K = 32)) := by
        by_cases hkm : k < m
        · obtain ⟨b2, off2, e2, z, hz⟩ := (HN.out.new HC.out) k hkm
          by_cases h0 : z < 0
          · exact ⟨32, by omega, .inr (.inr (.inl ⟨hkm, b2, off2, z, e2, hz, h0, rfl⟩))⟩
          · by_cases h1 : 32 < z
            · exact ⟨32, by omega, .inr (.inr (.inr ⟨hkm, b2, off2, z, e2, hz, h1, rfl⟩))⟩
            · exact ⟨z.toNat, by omega, .inr (.inl ⟨hkm, b2, off2, e2, by rw [show ((z.toNat : Nat) : Int) = z by omega]; exact hz⟩)⟩
        · exact ⟨32, by omega, .inl ⟨by omega, rfl⟩⟩
      have HH := dirs_all (x := x) K HR.out.1 HR.out.2
      have hkk : (bits + K) / 8 + 6 ≤ 140737488355328 := by omega
      have HKK : Hid ((direct x K e).R = Rc.dirs (bits + K) ∧ (direct x K e).k = (bits + K) / 8 ∧ (bits + K) / 8 + 6 ≤ 140737488355328) := ⟨HH.1, HH.2, hkk⟩
      clear HH hkk hx2
      go_upto_region 10 with fail
      go_cut [10, 44] (fun s10 s44 wx => ((s44 = .bool true ∧ k < m ∧ ∃ b2 off2, an = some ⟨b2, off2, none⟩ ∧ wr.cell? ⟨b2, off2 + k, none⟩ = some (.int .i64 (K : Int))) ∨ (s44 = .bool false ∧ K = 32)) ∧ s10 = .int .i64 32 ∧ wr = wx)
      case first =>
        rcases hcase with ⟨h1, h2⟩ | ⟨h1, b2, off2, e2, hz⟩ | ⟨h1, b2, off2, z, e2, hz, h2, h3⟩ | ⟨h1, b2, off2, z, e2, hz, h2, h3⟩
        · have hd : decide ((k : Int) < (m : Int)) = false := by simp; omega
          go_wp2_with fail
          go_meet
          case rel => exact ⟨.inr ⟨rfl, h2⟩, rfl, rfl⟩
        · subst e2
          have HZ : Hid (wr.cell? ⟨b2, off2 + k, none⟩ = some (.int .i64 (K : Int))) := hz
          go_wp2_with fail
          go_meet
          case rel => exact ⟨.inl ⟨by first | rfl | (simp; omega), h1, b2, off2, rfl, HZ.out⟩, rfl, rfl⟩
        · subst e2
          have hd : decide (0 ≤ z) = false := by simp; omega
          go_wp2_with fail
          go_meet
          case rel => exact ⟨.inr ⟨rfl, h3⟩, rfl, rfl⟩
        · subst e2
          have hd : decide (z ≤ 32) = false := by simp; omega
          have h0 : 0 ≤ z := by omega
          go_wp2_with fail
          go_meet
          case rel => exact ⟨.inr ⟨rfl, h3⟩, rfl, rfl⟩
      case rest =>
        clear hcase
        obtain ⟨hcase, rfl, rfl⟩ := hcut
        go_upto_if 44 with fail
        go_cut [10] (fun s10 wx => s10 = .int .i64 (K : Int) ∧ wr = wx)
        case first =>
          rcases hcase with ⟨rfl, h1, b2, off2, e2, hz⟩ | ⟨rfl, h2⟩
          · subst e2
            go_wp2_with fail
            go_meet
            case rel => exact ⟨rfl, rfl⟩
          · subst h2
            go_wp2_with fail
            go_meet
            case rel => exact ⟨rfl, rfl⟩
        case rest =>
          clear hcase
          obtain ⟨rfl, rfl⟩ := hcut
          go_wp2_with fail
          refine (direct_in w0.heap.size a v' e x K _ HE.out HO.out HX2.out hK32 (by rw [HKK.out.2.1]; have := HKK.out.2.2; omega) HC.out.size).mono ?_
          rintro y w3 ⟨rfl, v3, hE3, hC3, hM3⟩
          have HE3 : Hid (Enc w3 w0.heap.size a v3 (direct x K e)) := hE3
          have HF3 : Hid (Enc w3 w0.heap.size f y' e) := HF.out.keep hC3 HD.out
          have HD3 : Hid (Dis (Foot f y') (Foot a v3)) := (dis_moved HD.out (fun z h => (HF.out.foot_lt h).2) hM3).symm
          have HC3 : Hid (Chg (fun _ => False) w0 w3) := HE.out.chg HC.out (Nat.le_refl _) hC3
          clear hE3 hC3 hM3 HE HF HD HC
          go_wp2_with fail
          go_loopw [11] (fun jv ws => ∃ (j : Nat) (g : Rc.E) (z' : Value), j ≤ K ∧ jv = .int .i64 ((j : Int) - 1) ∧ Hid (Enc ws w0.heap.size a v3 (direct x K e)) ∧ Hid (Enc ws w0.heap.size f z' g) ∧ Hid (Dis (Foot f z') (Foot a v3)) ∧ Hid (Rc.Ok g) ∧ Hid (direct x j g = direct x K e) ∧ Hid (Chg (fun _ => False) w0 ws)) (fun jv _ => (intOf jv + 1).toNat)
          case atStart => exact ⟨K, e, y', Nat.le_refl _, rfl, HE3.out, HF3.out, HD3.out, HO.out, rfl, HC3.out⟩
          case round =>
            clear HE3 HF3 HD3 HC3
            obtain ⟨j, g, z', hj, rfl, HE3, HF3, HD3, HOg, HG, HC3⟩ := hrel
            cases j with
            | zero =>
              have hbK : bits + K ≤ 1125899906842624 := by omega
              go_wp2
              go_roundw
              case rel =>
                refine ⟨k + 1, bits + K, direct x K e, v3, z', by omega, by omega, by go_num, by go_num, HE3.out, ?_, HD3.out.symm, direct_ok x K HO.out, ⟨HKK.out.1, HKK.out.2.1⟩, HC3.out⟩
                have h1 : g = direct x K e := HG.out
                rw [← h1]
                exact HF3.out
              case measure => simp [intOf]; omega
            | succ j =>
              have hxj : ((x / 2 ^ j : Nat) : Int) = (x : Int) / 2 ^ j := by simp
              have ek : direct (x / 2 ^ j) 1 g = Rc.half g (decide (x / 2 ^ j % 2 = 1)) := by
                show Rc.half g (decide (x / 2 ^ j / 2 ^ 0 % 2 = 1)) = _
                rw [Nat.pow_zero, Nat.div_one]
              have hkg : (direct (x / 2 ^ j) 1 g).k + 1 ≤ 140737488355328 := by
                rw [ek]
                have h1 : direct x j (Rc.half g (decide (x / 2 ^ j % 2 = 1))) = direct x K e := HG.out
                have h2 := direct_k x j (Rc.half g (decide (x / 2 ^ j % 2 = 1)))
                rw [h1, HKK.out.2.1] at h2
                have := HKK.out.2.2
                omega
              have HDD := direct_in w0.heap.size f z' g (x / 2 ^ j) 1 wr HF3.out HOg.out (Nat.le_trans (Nat.div_le_self _ _) HX2.out) (by omega) hkg HC3.out.size
              rw [ek, hxj] at HDD
              have HDX : Hid (∀ w2, w2 = wr → Calls Try.prog 9 #[.pointer (some ⟨f, 0, none⟩), .int .u32 ((x : Int) / 2 ^ j), .int .i64 1] w2 fun y w' => y = .returned (.int .i64 0) ∧ ∃ v', Enc w' w0.heap.size f v' (Rc.half g (decide (x / 2 ^ j % 2 = 1))) ∧ Chg (Foot f z') wr w' ∧ Moved wr z' v') := fun w2 e2 => by subst e2; exact HDD
              have x1 : (x : Int) ≤ 4294967295 := by have := HX2.out; omega
              have hj31 : j < 32 := by omega
              clear HDD ek hkg hxj
              go_wp2_with fail
              refine (HDX.out _ rfl).mono ?_
              rintro y w4 ⟨rfl, z4, hF4, hC4, hM4⟩
              have HF4 : Hid (Enc w4 w0.heap.size f z4 (Rc.half g (decide (x / 2 ^ j % 2 = 1)))) := hF4
              have HE4 : Hid (Enc w4 w0.heap.size a v3 (direct x K e)) := HE3.out.keep hC4 HD3.out
              have HD4 : Hid (Dis (Foot f z4) (Foot a v3)) := dis_moved HD3.out (fun z h => (HE3.out.foot_lt h).2) hM4
              have HC4 : Hid (Chg (fun _ => False) w0 w4) := HF3.out.chg HC3.out (Nat.le_refl _) hC4
              clear hF4 hC4 hM4 HDX HF3 HE3 HD3 HC3
              go_wp2
              go_roundw
              case rel => exact ⟨j, _, z4, by omega, by go_num, HE4.out, HF4.out, HD4.out, Rc.half_ok HOg.out _, HG.out, HC4.out⟩
              case measure => simp [intOf]
    · obtain rfl : k = n := by omega
      obtain ⟨q, hq⟩ : ∃ q, q = bits / 8 := ⟨_, rfl⟩
      have HKQ : Hid (e.k = q) := by have := HR.out.2; show e.k = q; omega
      have hqd : (bits : Int).tdiv 8 = (q : Int) := by rw [Int.tdiv_eq_ediv_of_nonneg (by omega)]; omega
      have hqe : (bits : Int) / 8 = (q : Int) := by omega
      have hq1 : (q : Int) ≤ 140737488355328 := by omega
      have HK5 : Hid (e.k + 5 ≤ 140737488355328) := by have := HR.out.2; show e.k + 5 ≤ _; omega
      have HK4 : Hid (e.k ≤ 140737488355328) := by have := HR.out.2; show e.k ≤ _; omega
      have HSZ : Hid (w0.heap.size ≤ wr.heap.size) := HC.out.size
      have hdk : decide ((k : Int) < (k : Int)) = false := by simp
      clear hq hbits
      go_wp2_with fail
      refine wp_region_last (mk := fun u => #[_, _, _, _, _, _, _, _, _, _, _, _, _, _, _, _, _, _, _, _, _, _, _, _, _, _, _, _, _, _, _, _, _, _, _, _, _, _, _, _, _, _, _, _, _, _, _, _, _, _, _, _, _, _, _, _, _, _, _, _, _, _, _, _, _, _, _, _, _, _, u 70, u 71, u 72, u 73, u 74, u 75, u 76, u 77, u 78, u 79, u 80, u 81, u 82, u 83, u 84, u 85, u 86, u 87, u 88, u 89, u 90, u 91, u 92, u 93]) (F := fun slot vv ww => (look [(70, .val (.pointer (some ⟨a, 0, none⟩))), (71, .is (fun q wq => wq.ownsRow w0.heap.size 5 1 q (e.k + 5) (ins .u8 (nums (Rc.by_ e))))), (72, .val (.string (sb e))), (73, .val (.pointer (some ⟨f, 0, none⟩))), (74, .is (fun q wq => wq.ownsRow w0.heap.size 5 1 q (e.k + 5) (ins .u8 (nums (Rc.by_ e))))), (75, .val (.string (sb e))), (76, .val (.bool true)), (77, .val (.bool true)), (78, .val (.pointer (some ⟨a, 0, none⟩))), (79, .val (.int .i64 ((q : Int) + 5))), (80, .val (.int .i64 ((bits : Int)))), (81, .val (.int .i64 ((q : Int)))), (82, .val (.int .i64 ((q : Int) + 5))), (83, .val (.bool true)), (84, .val (.bool true)), (85, .val (.bool true)), (86, .val (.pointer (some ⟨a, 0, none⟩))), (87, .is (fun q wq => wq.ownsRow w0.heap.size 5 1 q (e.k + 5) (ins .u8 (nums (Rc.by_ e))))), (88, .val (.int .i64 ((q : Int) + 5))), (89, .val (.int .i64 ((bits : Int)))), (90, .val (.int .i64 ((q : Int)))), (91, .val (.int .i64 ((q : Int) + 5))), (92, .val (.bool true)), (93, .val (.bool true))] slot).holds vv ww) (fun _ => undef) rfl (by kernel_rfl) 24 _ rfl rfl (by kernel_rfl) ?_ (fun _ v w w' hc h => Fact.stays _ v w w' hc h) ?_ ?_
      · repeat (refine ⟨⟨_, rfl, fun _ _ => rfl⟩, ?_⟩)
        exact trivial
      · refine ⟨?_, ?_, ?_, ?_, ?_, ?_, ?_, ?_, ?_, ?_, ?_, ?_, ?_, ?_, ?_, ?_, ?_, ?_, ?_, ?_, ?_, ?_, ?_, ?_, trivial⟩
        · intro u w hc hd K hK -- 70
          clear hd
          go_simp
          exact hK.out (.pointer (some ⟨a, 0, none⟩)) w (Chg.refl _ _) rfl
        · intro u w hc hd K hK -- 71
          have h70 : (Fact.val (.pointer (some ⟨a, 0, none⟩))).holds (u 70) w := hd.get 0 (by kernel_rfl)
          simp only [Fact.holds] at h70
          clear hd
          simp only [h70] at hK
          go_simp
          go_at_call 10
          refine (bytes_any w0.heap.size a v' e w ((HE).out.new hc) HK5.out).mono ?_
          rintro x w2 ⟨v2, rfl, ho, c2⟩
          exact hK.out _ _ c2 ⟨w2, owns_base ho (Nat.le_trans HSZ.out hc.size), Chg.refl _ _⟩
        · intro u w hc hd K hK -- 72
          have h71 : (Fact.is (fun q wq => wq.ownsRow w0.heap.size 5 1 q (e.k + 5) (ins .u8 (nums (Rc.by_ e))))).holds (u 71) w := hd.get 1 (by kernel_rfl)
          obtain ⟨q71, h71, p71⟩ := h71
          clear hd
          have o71 := ownsRow_keep h71 p71 (fun _ _ f => f)
          obtain ⟨ad, cap, e71, _⟩ := own_any o71
          rw [e71] at o71
          have hcv := conv_own o71
          simp only [e71] at hK
          go_simp
          exact hK.out (.string (sb e)) w (Chg.refl _ _) rfl
        · intro u w hc hd K hK -- 73
          clear hd
          go_simp
          exact hK.out (.pointer (some ⟨f, 0, none⟩)) w (Chg.refl _ _) rfl
        · intro u w hc hd K hK -- 74
          have h73 : (Fact.val (.pointer (some ⟨f, 0, none⟩))).holds (u 73) w := hd.get 3 (by kernel_rfl)
          simp only [Fact.holds] at h73
          clear hd
          simp only [h73] at hK
          go_simp
          go_at_call 10
          refine (bytes_any w0.heap.size f y' e w ((HF).out.new hc) HK5.out).mono ?_
          rintro x w2 ⟨v2, rfl, ho, c2⟩
          exact hK.out _ _ c2 ⟨w2, owns_base ho (Nat.le_trans HSZ.out hc.size), Chg.refl _ _⟩
        · intro u w hc hd K hK -- 75
          have h74 : (Fact.is (fun q wq => wq.ownsRow w0.heap.size 5 1 q (e.k + 5) (ins .u8 (nums (Rc.by_ e))))).holds (u 74) w := hd.get 4 (by kernel_rfl)
          obtain ⟨q74, h74, p74⟩ := h74
          clear hd
          have o74 := ownsRow_keep h74 p74 (fun _ _ f => f)
          obtain ⟨ad, cap, e74, _⟩ := own_any o74
          rw [e74] at o74
          have hcv := conv_own o74
          simp only [e74] at hK
          go_simp
          exact hK.out (.string (sb e)) w (Chg.refl _ _) rfl
        · intro u w hc hd K hK -- 76
          have h72 : (Fact.val (.string (sb e))).holds (u 72) w := hd.get 2 (by kernel_rfl)
          simp only [Fact.holds] at h72
          have h75 : (Fact.val (.string (sb e))).holds (u 75) w := hd.get 5 (by kernel_rfl)
          simp only [Fact.holds] at h75
          clear hd
          simp only [h72, h75] at hK
          go_simp
          exact hK.out (.bool true) w (Chg.refl _ _) rfl
        · intro u w hc hd K hK -- 77
          have h76 : (Fact.val (.bool true)).holds (u 76) w := hd.get 6 (by kernel_rfl)
          simp only [Fact.holds] at h76
          clear hd
          simp only [h76] at hK
          go_simp
          exact hK.out (.bool true) w (Chg.refl _ _) rfl
        · intro u w hc hd K hK -- 78
          have h77 : (Fact.val (.bool true)).holds (u 77) w := hd.get 7 (by kernel_rfl)
          simp only [Fact.holds] at h77
          clear hd
          simp only [h77] at hK
          go_simp
          exact hK.out (.pointer (some ⟨a, 0, none⟩)) w (Chg.refl _ _) rfl
        · intro u w hc hd K hK -- 79
          have h78 : (Fact.val (.pointer (some ⟨a, 0, none⟩))).holds (u 78) w := hd.get 8 (by kernel_rfl)
          simp only [Fact.holds] at h78
          have h77 : (Fact.val (.bool true)).holds (u 77) w := hd.get 7 (by kernel_rfl)
          simp only [Fact.holds] at h77
          clear hd
          simp only [h77, h78] at hK
          go_simp
          go_at_call 11
          refine (size_any w0.heap.size a v' e w (HE.out.new hc) HK4.out).mono ?_
          rintro x w2 ⟨rfl, c2⟩
          have eq5 : ((e.k + 5 : Nat) : Int) = (q : Int) + 5 := by have := HKQ.out; omega
          rw [eq5]
          exact hK.out _ _ c2 rfl
        · intro u w hc hd K hK -- 80
          have h77 : (Fact.val (.bool true)).holds (u 77) w := hd.get 7 (by kernel_rfl)
          simp only [Fact.holds] at h77
          clear hd
          simp only [h77] at hK
          go_simp
          exact hK.out (.int .i64 ((bits : Int))) w (Chg.refl _ _) rfl
        · intro u w hc hd K hK -- 81
          have h80 : (Fact.val (.int .i64 ((bits : Int)))).holds (u 80) w := hd.get 10 (by kernel_rfl)
          simp only [Fact.holds] at h80
          have h77 : (Fact.val (.bool true)).holds (u 77) w := hd.get 7 (by kernel_rfl)
          simp only [Fact.holds] at h77
          clear hd
          simp only [h77, h80] at hK
          go_simp
          first | exact hK.out (.int .i64 (q : Int)) w (Chg.refl _ _) rfl | (rw [wr64 (p := (q : Int)) (by omega) (by omega)]; exact hK.out (.int .i64 (q : Int)) w (Chg.refl _ _) rfl) | (rw [hqd]; exact hK.out (.int .i64 (q : Int)) w (Chg.refl _ _) rfl)
        · intro u w hc hd K hK -- 82
          have h81 : (Fact.val (.int .i64 ((q : Int)))).holds (u 81) w := hd.get 11 (by kernel_rfl)
          simp only [Fact.holds] at h81
          have h77 : (Fact.val (.bool true)).holds (u 77) w := hd.get 7 (by kernel_rfl)
          simp only [Fact.holds] at h77
          clear hd
          simp only [h77, h81] at hK
          go_simp
          first | exact hK.out (.int .i64 ((q : Int) + 5)) w (Chg.refl _ _) rfl | (rw [wr64 (p := (q : Int) + 5) (by omega) (by omega)]; exact hK.out (.int .i64 ((q : Int) + 5)) w (Chg.refl _ _) rfl)
        · intro u w hc hd K hK -- 83
          have h79 : (Fact.val (.int .i64 ((q : Int) + 5))).holds (u 79) w := hd.get 9 (by kernel_rfl)
          simp only [Fact.holds] at h79
          have h82 : (Fact.val (.int .i64 ((q : Int) + 5))).holds (u 82) w := hd.get 12 (by kernel_rfl)
          simp only [Fact.holds] at h82
          have h77 : (Fact.val (.bool true)).holds (u 77) w := hd.get 7 (by kernel_rfl)
          simp only [Fact.holds] at h77
          clear hd
          simp only [h77, h79, h82] at hK
          go_simp
          exact hK.out (.bool true) w (Chg.refl _ _) rfl
        · intro u w hc hd K hK -- 84
          have h77 : (Fact.val (.bool true)).holds (u 77) w := hd.get 7 (by kernel_rfl)
          simp only [Fact.holds] at h77
          have h83 : (Fact.val (.bool true)).holds (u 83) w := hd.get 13 (by kernel_rfl)
          simp only [Fact.holds] at h83
          clear hd
          simp only [h77, h83] at hK
          go_simp
          exact hK.out (.bool true) w (Chg.refl _ _) rfl
        · intro u w hc hd K hK -- 85
          have h84 : (Fact.val (.bool true)).holds (u 84) w := hd.get 14 (by kernel_rfl)
          simp only [Fact.holds] at h84
          clear hd
          simp only [h84] at hK
          go_simp
          exact hK.out (.bool true) w (Chg.refl _ _) rfl
        · intro u w hc hd K hK -- 86
          have h85 : (Fact.val (.bool true)).holds (u 85) w := hd.get 15 (by kernel_rfl)
          simp only [Fact.holds] at h85
          clear hd
          simp only [h85] at hK
          go_simp
          exact hK.out (.pointer (some ⟨a, 0, none⟩)) w (Chg.refl _ _) rfl
        · intro u w hc hd K hK -- 87
          have h86 : (Fact.val (.pointer (some ⟨a, 0, none⟩))).holds (u 86) w := hd.get 16 (by kernel_rfl)
          simp only [Fact.holds] at h86
          have h85 : (Fact.val (.bool true)).holds (u 85) w := hd.get 15 (by kernel_rfl)
          simp only [Fact.holds] at h85
          clear hd
          simp only [h85, h86] at hK
          go_simp
          go_at_call 10
          refine (bytes_any w0.heap.size a v' e w ((HE).out.new hc) HK5.out).mono ?_
          rintro x w2 ⟨v2, rfl, ho, c2⟩
          exact hK.out _ _ c2 ⟨w2, owns_base ho (Nat.le_trans HSZ.out hc.size), Chg.refl _ _⟩
        · intro u w hc hd K hK -- 88
          have h87 : (Fact.is (fun q wq => wq.ownsRow w0.heap.size 5 1 q (e.k + 5) (ins .u8 (nums (Rc.by_ e))))).holds (u 87) w := hd.get 17 (by kernel_rfl)
          obtain ⟨q87, h87, p87⟩ := h87
          have h85 : (Fact.val (.bool true)).holds (u 85) w := hd.get 15 (by kernel_rfl)
          simp only [Fact.holds] at h85
          clear hd
          simp only [h85] at hK
          have o87 := ownsRow_keep h87 p87 (fun _ _ f => f)
          obtain ⟨ad, cap, e87, _⟩ := own_any o87
          rw [HKQ.out] at e87
          simp only [e87] at hK
          go_simp
          exact hK.out (.int .i64 ((q : Int) + 5)) w (Chg.refl _ _) rfl
        · intro u w hc hd K hK -- 89
          have h85 : (Fact.val (.bool true)).holds (u 85) w := hd.get 15 (by kernel_rfl)
          simp only [Fact.holds] at h85
          clear hd
          simp only [h85] at hK
          go_simp
          exact hK.out (.int .i64 ((bits : Int))) w (Chg.refl _ _) rfl
        · intro u w hc hd K hK -- 90
          have h89 : (Fact.val (.int .i64 ((bits : Int)))).holds (u 89) w := hd.get 19 (by kernel_rfl)
          simp only [Fact.holds] at h89
          have h85 : (Fact.val (.bool true)).holds (u 85) w := hd.get 15 (by kernel_rfl)
          simp only [Fact.holds] at h85
          clear hd
          simp only [h85, h89] at hK
          go_simp
          first | exact hK.out (.int .i64 (q : Int)) w (Chg.refl _ _) rfl | (rw [wr64 (p := (q : Int)) (by omega) (by omega)]; exact hK.out (.int .i64 (q : Int)) w (Chg.refl _ _) rfl) | (rw [hqd]; exact hK.out (.int .i64 (q : Int)) w (Chg.refl _ _) rfl)
        · intro u w hc hd K hK -- 91
          have h90 : (Fact.val (.int .i64 ((q : Int)))).holds (u 90) w := hd.get 20 (by kernel_rfl)
          simp only [Fact.holds] at h90
          have h85 : (Fact.val (.bool true)).holds (u 85) w := hd.get 15 (by kernel_rfl)
          simp only [Fact.holds] at h85
          clear hd
          simp only [h85, h90] at hK
          go_simp
          first | exact hK.out (.int .i64 ((q : Int) + 5)) w (Chg.refl _ _) rfl | (rw [wr64 (p := (q : Int) + 5) (by omega) (by omega)]; exact hK.out (.int .i64 ((q : Int) + 5)) w (Chg.refl _ _) rfl)
        · intro u w hc hd K hK -- 92
          have h88 : (Fact.val (.int .i64 ((q : Int) + 5))).holds (u 88) w := hd.get 18 (by kernel_rfl)
          simp only [Fact.holds] at h88
          have h91 : (Fact.val (.int .i64 ((q : Int) + 5))).holds (u 91) w := hd.get 21 (by kernel_rfl)
          simp only [Fact.holds] at h91
          have h85 : (Fact.val (.bool true)).holds (u 85) w := hd.get 15 (by kernel_rfl)
          simp only [Fact.holds] at h85
          clear hd
          simp only [h85, h88, h91] at hK
          go_simp
          exact hK.out (.bool true) w (Chg.refl _ _) rfl
        · intro u w hc hd K hK -- 93
          have h85 : (Fact.val (.bool true)).holds (u 85) w := hd.get 15 (by kernel_rfl)
          simp only [Fact.holds] at h85
          have h92 : (Fact.val (.bool true)).holds (u 92) w := hd.get 22 (by kernel_rfl)
          simp only [Fact.holds] at h92
          clear hd
          simp only [h85, h92] at hK
          go_simp
          exact hK.out (.bool true) w (Chg.refl _ _) rfl
      · intro u w hc hA K hK
        have a93 : u 93 = .bool true := hA.at 93 (by kernel_rfl)
        clear hA
        have HC9 : Hid (Chg (fun _ => False) w0 w) := chg_then HC.out hc
        clear hc
        go_simp
        refine hK.out _ _ ?_
        go_simp
        go_wp2
        go_ret
        exact ⟨rfl, HC9.out⟩
end Go.Proofs.Ythhjllhcgdkjnaa
