/- The contracts of the program's Direct; of no statement by themselves. -/
import Derived.Test.YtejopgopcocapaaEnB
import Derived.Test.YtejopgopcocapaaRefD
import Derived.Laws.BitsAllLaws
namespace Go.Proofs.Ytejopgopcocapaa
open Go.RowKit
set_option linter.unusedVariables false

theorem direct_out (r : Value) (x : Value) (n : Int) (w : World) (hn : n < 0 ∨ 32 < n) : Calls Try.prog 31 #[r, x, .int .i64 n] w fun e w' => e = .returned (.int .i64 7) ∧ w = w' := by
  by_cases h0 : n < 0
  · go_enter Try.func31, Try.ntmps31
    go_wp2
    go_ret
    exact ⟨rfl, rfl⟩
  · have h1 : 32 < n := by omega
    have hd : decide (n < 0) = false := by simp; omega
    go_enter Try.func31, Try.ntmps31
    go_wp2
    go_ret
    exact ⟨rfl, rfl⟩

theorem bit_at (m i : Nat) (hm : m < 4294967296) : bits .and .u32 ((m : Int) / 2 ^ i) 1 = ((m / 2 ^ i % 2 : Nat) : Int) := by
  have e : ((m : Int) / 2 ^ i) = ((m / 2 ^ i : Nat) : Int) := by simp
  rw [e, show (1 : Int) = ((1 : Nat) : Int) from rfl, u32_and_nat _ 1 (Nat.lt_of_le_of_lt (Nat.div_le_self _ _) hm) (by decide)]
  congr 1
  exact Nat.and_one_is_mod _
theorem half_k_le (e : Rc.E) (one : Bool) : e.k ≤ (Rc.half e one).k ∧ (Rc.half e one).k ≤ e.k + 1 := by
  rw [Rc.half_k]
  split <;> omega
theorem direct_k (x : Nat) : ∀ (m : Nat) (e : Rc.E), e.k ≤ (direct x m e).k
  | 0, e => Nat.le_refl _
  | m + 1, e => Nat.le_trans (half_k_le e _).1 (direct_k x m _)
theorem direct_k_le (x : Nat) : ∀ (m : Nat) (e : Rc.E), (direct x m e).k ≤ e.k + m
  | 0, e => Nat.le_refl _
  | m + 1, e => by
    have h1 := (half_k_le e (decide (x / 2 ^ m % 2 = 1))).2
    have h2 := direct_k_le x m (Rc.half e (decide (x / 2 ^ m % 2 = 1)))
    show (direct x m _).k ≤ _
    omega
theorem direct_ok (x : Nat) : ∀ (m : Nat) {e : Rc.E}, Rc.Ok e → Rc.Ok (direct x m e)
  | 0, _, h => h
  | m + 1, _, h => direct_ok x m (Rc.half_ok h _)

theorem half_is {l : Rc.Lo} {f : Rc.E} (h : Rc.Is l f) : Rc.Is l ⟨f.L, f.R / 2, f.k⟩ := h.less (by omega)

set_option maxHeartbeats 2000000 in
set_option maxRecDepth 100000 in
theorem direct_in (B a : Nat) (v : Value) (e : Rc.E) (x n : Nat) (w0 : World) (h : Enc w0 B a v e) (hO : Rc.Ok e) (hx : x ≤ 4294967295) (hn : n ≤ 32) (hk : (direct x n e).k + 1 ≤ 140737488355328) (hB : B ≤ w0.heap.size) :
    Calls Try.prog 31 #[.pointer (some ⟨a, 0, none⟩), .int .u32 (x : Int), .int .i64 (n : Int)] w0 fun y w' => y = .returned (.int .i64 0) ∧ ∃ v', Enc w' B a v' (direct x n e) ∧ Chg (Foot a v) w0 w' ∧ Moved w0 v v' := by
  have hd : decide ((n : Int) < 0) = false := by simp
  have hd32 : decide ((32 : Int) < (n : Int)) = false := by simp; omega
  have HH : Hid (Enc w0 B a v e) := h
  have HKK : Hid ((direct x n e).k + 1 ≤ 140737488355328) := hk
  clear h hk
  go_enter Try.func31, Try.ntmps31
  go_wp2_with fail
  go_loopw [7] (fun iv wr => ∃ (m : Nat) (f : Rc.E) (v' : Value), m ≤ n ∧ iv = .int .i64 ((m : Int) - 1) ∧ Enc wr B a v' f ∧ Rc.Ok f ∧ Hid (direct x m f = direct x n e) ∧ Chg (Foot a v) w0 wr ∧ Moved w0 v v') (fun iv _ => (intOf iv + 1).toNat)
  case atStart => exact ⟨n, e, v, Nat.le_refl _, rfl, HH.out, hO, rfl, Chg.refl _ _, Moved.refl _ _⟩
  case round =>
    clear HH
    obtain ⟨m, f, v', hm, rfl, hR, hOf, HD, hC, hM⟩ := hrel
    cases m with
    | zero =>
      have e1 : f = direct x n e := HD.out
      rw [e1] at hR
      have HR : Hid (Enc wr B a v' (direct x n e)) := hR
      clear hR e1 HD hOf
      go_wp2
      go_ret
      exact ⟨rfl, v', HR.out, hC, hM⟩
    | succ j =>
      have hkf : f.k ≤ (direct x n e).k := by rw [← HD.out]; exact direct_k x (j + 1) f
      have HKF : Hid (f.k + 1 ≤ 140737488355328) := by have := HKK.out; show f.k + 1 ≤ _; omega
      obtain ⟨l, hE, hI⟩ := hR
      have k4 := (cells5 hE.blk).2.2.2.2.1
      have f4 := (cells5 hE.blk).2.2.2.2.2 4
      have hlo := hOf.lo
      have hhi := hOf.hi
      have HLO : Hid (16777216 ≤ f.R ∧ f.R ≤ 4294967295) := ⟨hlo, hhi⟩
      obtain ⟨q, hq⟩ : ∃ q : Int, q = (f.R : Int) / 2 := ⟨_, rfl⟩
      obtain ⟨z, hz⟩ : ∃ z : Int, z = (f.R : Int) := ⟨_, rfl⟩
      have HQ : Hid (q = ((f.R / 2 : Nat) : Int)) := by show _ = _; omega
      have hzq : z / 2 = q := by rw [hz, hq]
      have z1 : 16777216 ≤ z := by omega
      have z2 : z ≤ 4294967295 := by omega
      have q1 : 0 ≤ q := by omega
      have q2 : q ≤ 4294967295 := by omega
      rw [← hz] at k4
      obtain ⟨hS, hCs⟩ := hE.setR (f.R / 2) q HQ.out
      have HS : Hid (En (wr.setCell ⟨a, 4, none⟩ (.int .u32 q)) B a v' l (f.R / 2)) := hS
      have q4 : (wr.setCell ⟨a, 4, none⟩ (.int .u32 q)).cell? ⟨a, 4, none⟩ = some (.int .u32 q) := by
        have h3 := (cells5 hS.blk).2.2.2.2.1
        rw [← HQ.out] at h3
        exact h3
      have HI : Hid (Rc.Is l f) := hI
      have HCs : Hid (Chg (Foot a v') wr (wr.setCell ⟨a, 4, none⟩ (.int .u32 q))) := hCs.mono (fun _ e => .inl (.inl e))
      have HC : Hid (Chg (Foot a v) w0 wr) := hC
      have HM : Hid (Moved w0 v v') := hM
      have HBW : Hid (B ≤ wr.heap.size) := Nat.le_trans hB hC.size
      have HOF : Hid (Rc.Ok f) := hOf
      clear hC hM hE hI hS hCs hlo hhi hz hq hOf hkf
      have hT := bit_at x j (by omega)
      have hj31 : j < 32 := by omega
      by_cases hb : x / 2 ^ j % 2 = 1
      · have hT1 : bits .and .u32 ((x : Int) / 2 ^ j) 1 = 1 := by rw [hT, hb]; rfl
        have HD2 : Hid (direct x j (Rc.half f true) = direct x n e) := by
          have h1 : direct x j (Rc.half f (decide (x / 2 ^ j % 2 = 1))) = direct x n e := HD.out
          rw [show decide (x / 2 ^ j % 2 = 1) = true from decide_eq_true hb] at h1
          exact h1
        clear hb hT HD
        have ej : ((j + 1 : Nat) : Int) - 1 = (j : Int) := by omega
        rw [ej]
        clear ej
        go_wp2_with fail
        simp only [hzq]
        refine wp_region_last (mk := fun u => #[_, _, _, _, _, _, _, _, _, _, _, _, _, _, _, _, _, _, _, _, _, _, _, _, _, _, _, _, _, _, _, _, u 32, u 33, u 34, u 35, u 36, u 37, u 38, _, _, _]) (F := fun slot vv ww => (look [(32, .val (.pointer (some ⟨a, 0, none⟩))), (33, .val (.pointer (some ⟨a, 0, none⟩))), (34, .val (.pointer (some ⟨a, 0, none⟩))), (35, .val (.pointer (some ⟨a, 0, none⟩))), (36, .val (.pointer (some ⟨a, 0, none⟩))), (37, .val (.pointer (some ⟨a, 4, none⟩))), (38, .val (.int .u32 q))] slot).holds vv ww) (fun slot => match slot with | 32 => u32 | 33 => u33 | 34 => u34 | 35 => u35 | 36 => u36 | 37 => u37 | 38 => u38 | _ => undef) rfl (by kernel_rfl) 7 _ rfl rfl (by kernel_rfl) ?_ (fun _ v w w' hc h => Fact.stays _ v w w' hc h) ?_ ?_
        · repeat (refine ⟨⟨_, rfl, fun _ _ => rfl⟩, ?_⟩)
          exact trivial
        · refine ⟨?_, ?_, ?_, ?_, ?_, ?_, ?_, trivial⟩
          · intro u w hc hd K hK -- 32
            clear hd
            go_simp
            exact hK.out (.pointer (some ⟨a, 0, none⟩)) w (Chg.refl _ _) rfl
          · intro u w hc hd K hK -- 33
            have h32 : (Fact.val (.pointer (some ⟨a, 0, none⟩))).holds (u 32) w := hd.get 0 (by kernel_rfl)
            simp only [Fact.holds] at h32
            clear hd
            simp only [h32] at hK
            go_simp
            exact hK.out (.pointer (some ⟨a, 0, none⟩)) w (Chg.refl _ _) rfl
          · intro u w hc hd K hK -- 34
            have h33 : (Fact.val (.pointer (some ⟨a, 0, none⟩))).holds (u 33) w := hd.get 1 (by kernel_rfl)
            simp only [Fact.holds] at h33
            clear hd
            simp only [h33] at hK
            go_simp
            exact hK.out (.pointer (some ⟨a, 0, none⟩)) w (Chg.refl _ _) rfl
          · intro u w hc hd K hK -- 35
            clear hd
            go_simp
            exact hK.out (.pointer (some ⟨a, 0, none⟩)) w (Chg.refl _ _) rfl
          · intro u w hc hd K hK -- 36
            have h35 : (Fact.val (.pointer (some ⟨a, 0, none⟩))).holds (u 35) w := hd.get 3 (by kernel_rfl)
            simp only [Fact.holds] at h35
            clear hd
            simp only [h35] at hK
            go_simp
            exact hK.out (.pointer (some ⟨a, 0, none⟩)) w (Chg.refl _ _) rfl
          · intro u w hc hd K hK -- 37
            have h36 : (Fact.val (.pointer (some ⟨a, 0, none⟩))).holds (u 36) w := hd.get 4 (by kernel_rfl)
            simp only [Fact.holds] at h36
            clear hd
            simp only [h36] at hK
            go_simp
            exact hK.out (.pointer (some ⟨a, 4, none⟩)) w (Chg.refl _ _) rfl
          · intro u w hc hd K hK -- 38
            have h37 : (Fact.val (.pointer (some ⟨a, 4, none⟩))).holds (u 37) w := hd.get 5 (by kernel_rfl)
            simp only [Fact.holds] at h37
            clear hd
            simp only [h37] at hK
            have hcell := cell_chg q4 hc
            go_simp
            exact hK.out _ _ (Chg.refl _ _) rfl
        · intro u w hc hA K hK
          have e34 : u 34 = .pointer (some ⟨a, 0, none⟩) := hA.at 34 (by kernel_rfl)
          have e38 : u 38 = .int .u32 q := hA.at 38 (by kernel_rfl)
          clear hA
          go_simp
          go_at_call 48
          have hE2 := HS.out.new hc
          have hs2 := hc.size
          rw [set_size] at hs2
          have hQ := HQ.out
          rw [hQ]
          refine (adde_any B a v' f (f.R / 2) (f.R / 2) (f.R / 2) _ l hE2 HI.out (by have := HLO.out; omega) (by omega) (by have := HLO.out; omega) HLO.out.2 HKF.out (by have := HBW.out; omega)).mono ?_
          rintro y w3 ⟨rfl, v3, l3, hE3, hI3, hC3, hM3⟩
          have H3 : Hid (Enc w3 B a v3 ⟨f.L + f.R / 2, f.R / 2, f.k⟩) := ⟨l3, hE3, hI3⟩
          have HC3 : Hid (Chg (Foot a v') wr w3) := (HCs.out.trans hc (fun _ f => f.elim)).trans hC3 (fun _ e => .inl e)
          have HM3 : Hid (Moved wr v' v3) := moved_from hs2 hM3
          have HS3 : Hid (wr.heap.size ≤ w3.heap.size) := HC3.out.size
          clear hE2 hE3 hI3 hC3 hM3 hc hQ hs2
          go_simp
          refine hK.out _ _ ?_
          clear hK
          go_wp2_with fail
          refine (widen_any B a v3 ⟨f.L + f.R / 2, f.R / 2, f.k⟩ _ H3.out (by have := HLO.out; show _ ≤ f.R / 2; omega) (by have := HLO.out; show f.R / 2 ≤ _; omega) HKF.out (by have := HBW.out; have := HS3.out; omega)).mono ?_
          rintro y w4 ⟨rfl, v4, h4, c4, m4⟩
          have H4 : Hid (Enc w4 B a v4 (Rc.half f true)) := h4
          have HX : Hid (Chg (Foot a v) w0 w4 ∧ Moved w0 v v4) := by
            have s1 := foot_step HC.out HM.out HC3.out HM3.out
            exact foot_step s1.1 s1.2 c4 m4
          clear h4 c4 m4 H3 HC3 HC HM
          go_wp2
          go_roundw
          case rel => exact ⟨j, Rc.half f true, v4, by omega, by go_num, H4.out, Rc.half_ok HOF.out true, HD2.out, HX.out.1, HX.out.2⟩
          case measure => simp [intOf]
      · have hb0 : x / 2 ^ j % 2 = 0 := by omega
        have hT1 : bits .and .u32 ((x : Int) / 2 ^ j) 1 = 0 := by rw [hT, hb0]; rfl
        have HD2 : Hid (direct x j (Rc.half f false) = direct x n e) := by
          have h1 : direct x j (Rc.half f (decide (x / 2 ^ j % 2 = 1))) = direct x n e := HD.out
          rw [show decide (x / 2 ^ j % 2 = 1) = false from decide_eq_false hb] at h1
          exact h1
        have H3 : Hid (Enc (wr.setCell ⟨a, 4, none⟩ (.int .u32 q)) B a v' ⟨f.L, f.R / 2, f.k⟩) := ⟨l, HS.out, half_is HI.out⟩
        clear hb hb0 hT HD
        go_wp2_with fail
        refine (widen_any B a v' ⟨f.L, f.R / 2, f.k⟩ _ H3.out (by have := HLO.out; show _ ≤ f.R / 2; omega) (by have := HLO.out; show f.R / 2 ≤ _; omega) HKF.out (by rw [set_size]; exact HBW.out)).mono ?_
        rintro y w4 ⟨rfl, v4, h4, c4, m4⟩
        have H4 : Hid (Enc w4 B a v4 (Rc.half f false)) := h4
        have HX : Hid (Chg (Foot a v) w0 w4 ∧ Moved w0 v v4) := foot_step HC.out HM.out (HCs.out.trans c4 (fun _ e => .inl e)) (moved_from (by rw [set_size]; exact Nat.le_refl _) m4)
        clear h4 c4 m4 HS HCs HC HM H3 k4 f4 q4
        go_wp2
        go_roundw
        case rel => exact ⟨j, Rc.half f false, v4, by omega, by go_num, H4.out, Rc.half_ok HOF.out false, HD2.out, HX.out.1, HX.out.2⟩
        case measure => simp [intOf]
end Go.Proofs.Ytejopgopcocapaa
