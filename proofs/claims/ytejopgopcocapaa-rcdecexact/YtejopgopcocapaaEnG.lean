/- The contracts of Size and Bytes; of no statement by themselves. -/
import Derived.Test.YtejopgopcocapaaEnD
import Derived.Test.YtejopgopcocapaaLastP
namespace Go.Proofs.Ytejopgopcocapaa
open Go.RowKit
set_option linter.unusedVariables false

theorem cells4 {w : World} {a : Nat} {x0 x1 x2 x3 : Value} {t : TypeId} (h : w.heap[a]? = some (.cells #[x0, x1, x2, x3] t (0, 0))) : w.cell? ⟨a, 0, none⟩ = some x0 ∧ w.cell? ⟨a, 1, none⟩ = some x1 ∧ w.cell? ⟨a, 2, none⟩ = some x2 ∧ w.cell? ⟨a, 3, none⟩ = some x3 :=
  ⟨by simp [World.cell?, h], by simp [World.cell?, h], by simp [World.cell?, h], by simp [World.cell?, h]⟩
theorem from_four (w : World) (x0 x1 x2 x3 : Value) (t : TypeId) : From (w.alloc (.cells #[x0, x1, x2, x3] t)) (some ⟨w.heap.size, 0, none⟩) 4 4 1 [x0, x1, x2, x3] := by
  refine ⟨rfl, .inr ⟨_, rfl, fun j u hu => ?_⟩⟩
  have hb : (w.alloc (.cells #[x0, x1, x2, x3] t)).heap[w.heap.size]? = some (.cells #[x0, x1, x2, x3] t (0, 0)) := heap_alloc_last _ _
  obtain ⟨q0, q1, q2, q3⟩ := cells4 hb
  match j, hu with
  | 0, hu => simp at hu; subst hu; rw [addk]; exact q0
  | 1, hu => simp at hu; subst hu; rw [addk]; exact q1
  | 2, hu => simp at hu; subst hu; rw [addk]; exact q2
  | 3, hu => simp at hu; subst hu; rw [addk]; exact q3
/-- Four bytes are appended: before, behind the list of four, behind the append. -/
def FourJ (w0 W : World) (n : Nat) (xs : List Value) (b0 b1 b2 b3 : Int) (y z : Value) : Nat → World → Prop
  | 0, w => Chg (fun _ => False) W w
  | 1, w => Chg (fun _ => False) W w ∧ ∃ c, y = .slice (some ⟨c, 0, none⟩) 4 4 ∧ From w (some ⟨c, 0, none⟩) 4 4 1 [Value.int .u8 b0, .int .u8 b1, .int .u8 b2, .int .u8 b3]
  | _, w => w.ownsRow w0.heap.size 5 1 z (n + 4) (xs ++ [Value.int .u8 b0, .int .u8 b1, .int .u8 b2, .int .u8 b3]) ∧ Chg (fun _ => False) w0 w
theorem four8 (b0 b1 b2 b3 : Int) : ∀ u ∈ [Value.int .u8 b0, .int .u8 b1, .int .u8 b2, .int .u8 b3], u.oneCell' = true := fun u hu => by
  simp at hu
  rcases hu with rfl | rfl | rfl | rfl <;> rfl
theorem ins_app (k : IntKind) (a b : List Nat) : ins k (nums (a ++ b)) = ins k (nums a) ++ ins k (nums b) := by simp [ins, nums]
theorem dg4 (t : Nat) (ht : t < 4294967296) (b0 b1 b2 b3 : Int) (h0 : b0 = ((t / 16777216 : Nat) : Int)) (h1 : b1 = ((t / 65536 % 256 : Nat) : Int)) (h2 : b2 = ((t / 256 % 256 : Nat) : Int)) (h3 : b3 = ((t % 256 : Nat) : Int)) : ins .u8 (nums (Rc.dg 4 t)) = [Value.int .u8 b0, .int .u8 b1, .int .u8 b2, .int .u8 b3] := by
  have e : Rc.dg 4 t = [t / 256 / 256 / 256 % 256, t / 256 / 256 % 256, t / 256 % 256, t % 256] := by simp [Rc.dg]
  rw [e, h0, h1, h2, h3]
  have e0 : t / 256 / 256 / 256 % 256 = t / 16777216 := by omega
  have e1 : t / 256 / 256 % 256 = t / 65536 % 256 := by omega
  rw [e0, e1]
  simp [ins, nums]

set_option maxHeartbeats 4000000 in
set_option maxRecDepth 100000 in
theorem digits_any (B a : Nat) (v : Value) (s : List Nat) (d r t R : Nat) (w0 : World) (h : En w0 B a v ⟨s, d, r, t⟩ R) (ht : t < 4294967296) (hl : s.length + r + 5 ≤ 140737488355328) :
    Calls Try.prog 50 #[.pointer (some ⟨a, 0, none⟩)] w0 fun e w' => ∃ v', e = .returned v' ∧ w'.ownsRow w0.heap.size 5 1 v' (s.length + r + 5) (ins .u8 (nums (Rc.digs ⟨s, d, r, t⟩))) ∧ Chg (fun _ => False) w0 w' := by
  obtain ⟨i0, hi, hz0, hz1, hz2⟩ := info_parts infoU8
  have HH : Hid (En w0 B a v ⟨s, d, r, t⟩ R) := h
  have hF0 : w0.ownsRow B 5 1 v s.length (ins .u8 (nums s)) := h.own
  obtain ⟨ad, cap, hv, _⟩ := own_any hF0
  rw [hv] at hF0
  have HF0 : Hid (From w0 ad s.length cap 1 (ins .u8 (nums s))) := own_from hF0
  have HV : Hid (v = .slice ad s.length cap) := hv
  have hone := ins_one .u8 (nums s)
  clear h hF0 hv
  go_enter Try.func50, Try.ntmps50
  go_wp2_with fail
  refine (losize_any B a v s d r t R _ HH.out (by omega)).mono ?_
  rintro e w1 ⟨rfl, c1⟩
  have HC1 : Hid (Chg (fun _ => False) w0 w1) := c1
  have hs1 := c1.size
  clear c1
  go_wp2_with (at_make; refine wpList_make_own _ rfl _ _ 22 rfl w0.heap.size 5 i0 (.int .u8 0) 1 Try.underlying22 hi hz0 hz1 .i64 .i64 _ (s.length + r + 5) rfl rfl rfl (by rw [hz2]; omega) (by unfold maxLen; omega) hs1 ?_)
  intro w2 ho2 hg2
  have c2 : Chg (fun _ => False) w0 w2 := HC1.out.grown hg2 (fun k e => by cases e)
  have k0 : w2.cell? ⟨a, 0, none⟩ = some (.slice ad s.length cap) := by
    have := (cells5 (HH.out.new c2).blk).1
    rw [HV.out] at this
    exact this
  have hF2 := HF0.out.keep c2
  have HC2 : Hid (Chg (fun _ => False) w0 w2) := c2
  have hs2 := c2.size
  clear c2 hg2 HC1
  generalize w1.heap.size = P1 at *
  go_wp2_with (at_builtin; refine wpList_append_moved rfl _ _ 22 rfl w0.heap.size 5 i0 (.int .u8 0) 1 1 Try.underlying22 hi hz0 hz1 hz2 rfl (by decide) _ 0 [] rfl ad s.length cap rfl (ins .u8 (nums s)) ho2 hF2 hone (by unfold maxLen; omega) (by omega) hs2 ?_)
  intro v3 w3 ho3 hg3 hm3
  have c3 : Chg (fun _ => False) w0 w3 := HC2.out.grown hg3 (fun k e => .inr (ho2.lt k e).1)
  replace ho3 : w3.ownsRow w0.heap.size 5 1 v3 s.length (ins .u8 (nums s)) := by simpa using ho3
  have HC3 : Hid (Chg (fun _ => False) w0 w3) := c3
  have k1 : w3.cell? ⟨a, 1, none⟩ = some (.int .u8 (d : Int)) := (cells5 (HH.out.new c3).blk).2.1
  obtain ⟨ad3, cap3, hv3, _⟩ := own_any ho3
  subst hv3
  have c3a := chg_one w3 (.cells #[.int .u8 (d : Int)] 5)
  have o3 := ho3.alloc (.cells #[.int .u8 (d : Int)] 5)
  have hfr3 := from_one8 w3 (.int .u8 (d : Int)) 5
  have hone3 := one8 d
  have hs3 : w0.heap.size ≤ (w3.alloc (.cells #[.int .u8 (d : Int)] 5)).heap.size := Nat.le_trans c3.size c3a.size
  clear c3 hg3 hm3 HC2 k0 hF2 ho2 hs2 hone
  go_wp2_with (at_builtin; refine wpList_append_moved rfl _ _ 22 rfl w0.heap.size 5 i0 (.int .u8 0) 1 1 Try.underlying22 hi hz0 hz1 hz2 rfl (by decide) _ s.length (ins .u8 (nums s)) rfl (some ⟨w3.heap.size, 0, none⟩) 1 1 rfl [.int .u8 (d : Int)] o3 hfr3 hone3 (by unfold maxLen; omega) (by omega) hs3 ?_)
  intro v4 w4 ho4 hg4 hm4
  have c4 : Chg (fun _ => False) w0 w4 := (chg_then HC3.out c3a).grown hg4 (fun k e => .inr (o3.lt k e).1)
  have HC4 : Hid (Chg (fun _ => False) w0 w4) := c4
  have k2 : w4.cell? ⟨a, 2, none⟩ = some (.int .i64 (r : Int)) := (cells5 (HH.out.new c4).blk).2.2.1
  obtain ⟨ad4, cap4, hv4, _⟩ := own_any ho4
  subst hv4
  have HO4 : Hid (w4.ownsRow w0.heap.size 5 1 (.slice ad4 (s.length + 1) cap4) (s.length + 1 + 0) (ins .u8 (nums (s ++ d :: List.replicate 0 255)))) := by
    show World.ownsRow _ _ _ _ _ _ _
    rw [ins_app]
    exact ho4
  clear c4 hg4 hm4 HC3 ho4 o3 hfr3 hone3 hs3 c3a ho3 k1
  go_wp2_with fail
  go_loopw [3, 24] (fun bv iv wr => ∃ j : Nat, j ≤ r ∧ iv = .int .i64 (j : Int) ∧ wr.ownsRow w0.heap.size 5 1 bv (s.length + 1 + j) (ins .u8 (nums (s ++ d :: List.replicate j 255))) ∧ Chg (fun _ => False) w0 wr) (fun _ iv _ => r - (intOf iv).toNat)
  case atStart => exact ⟨0, Nat.zero_le _, rfl, HO4.out, HC4.out⟩
  case round =>
    clear HO4 HC4 k2
    obtain ⟨j, hj, rfl, ho, hc⟩ := hrel
    obtain ⟨ad5, cap5, hv5, _⟩ := own_any ho
    subst hv5
    by_cases hjr : j < r
    · have c5 := chg_one wr (.cells #[.int .u8 255] 5)
      have o5 := ho.alloc (.cells #[.int .u8 255] 5)
      have hfr := from_one8 wr (.int .u8 255) 5
      have hone5 : ∀ u ∈ [Value.int .u8 255], u.oneCell' = true := one8 255
      have hsz : w0.heap.size ≤ (wr.alloc (.cells #[.int .u8 255] 5)).heap.size := Nat.le_trans hc.size c5.size
      have HC5 : Hid (Chg (fun _ => False) w0 (wr.alloc (.cells #[.int .u8 255] 5))) := chg_then hc c5
      clear c5 hc ho
      go_wp2_with (at_builtin; refine wpList_append_moved rfl _ _ 22 rfl w0.heap.size 5 i0 (.int .u8 0) 1 1 Try.underlying22 hi hz0 hz1 hz2 rfl (by decide) _ (s.length + 1 + j) (ins .u8 (nums (s ++ d :: List.replicate j 255))) rfl (some ⟨wr.heap.size, 0, none⟩) 1 1 rfl [.int .u8 255] o5 hfr hone5 (by unfold maxLen; omega) (by omega) hsz ?_)
      intro v6 w6 ho6 hg6 hm6
      have HC6 : Hid (Chg (fun _ => False) w0 w6) := HC5.out.grown hg6 (fun k e => .inr (o5.lt k e).1)
      have HO6 : Hid (w6.ownsRow w0.heap.size 5 1 v6 (s.length + 1 + (j + 1)) (ins .u8 (nums (s ++ d :: List.replicate (j + 1) 255)))) := by
        show World.ownsRow _ _ _ _ _ _ _
        have e : s ++ d :: List.replicate (j + 1) 255 = (s ++ d :: List.replicate j 255) ++ [255] := by rw [List.replicate_succ']; simp
        rw [e, ins_app]
        exact ho6
      obtain ⟨ad6, cap6, hv6, _⟩ := own_any ho6
      subst hv6
      clear ho6 hg6 hm6 o5 hfr hone5 hsz HC5
      go_wp2
      go_roundw
      case rel => exact ⟨j + 1, by omega, by go_num, HO6.out, HC6.out⟩
      case measure => simp [intOf]; omega
    · obtain rfl : j = r := by omega
      obtain ⟨n6, hn6⟩ : ∃ n6, n6 = s.length + 1 + j := ⟨_, rfl⟩
      obtain ⟨xs6, hx6⟩ : ∃ xs6, xs6 = ins .u8 (nums (s ++ d :: List.replicate j 255)) := ⟨_, rfl⟩
      obtain ⟨b0, hb0⟩ : ∃ y : Int, (t : Int) / 16777216 = y := ⟨_, rfl⟩
      have b01 : 0 ≤ b0 := by omega
      have b02 : b0 < 256 := by omega
      obtain ⟨y1, hy1⟩ : ∃ y : Int, (t : Int) / 65536 = y := ⟨_, rfl⟩
      obtain ⟨y2, hy2⟩ : ∃ y : Int, (t : Int) / 256 = y := ⟨_, rfl⟩
      obtain ⟨b1, hb1⟩ : ∃ y : Int, y1 % 256 = y := ⟨_, rfl⟩
      obtain ⟨b2, hb2⟩ : ∃ y : Int, y2 % 256 = y := ⟨_, rfl⟩
      obtain ⟨b3, hb3⟩ : ∃ y : Int, (t : Int) % 256 = y := ⟨_, rfl⟩
      have hw0 : IntKind.u8.wrap b0 = b0 := by simp [IntKind.wrap, IntKind.signed, IntKind.bits]; omega
      have hw1 : IntKind.u8.wrap y1 = b1 := by simp [IntKind.wrap, IntKind.signed, IntKind.bits]; omega
      have hw2 : IntKind.u8.wrap y2 = b2 := by simp [IntKind.wrap, IntKind.signed, IntKind.bits]; omega
      have hw3 : IntKind.u8.wrap (t : Int) = b3 := by simp [IntKind.wrap, IntKind.signed, IntKind.bits]; omega
      have HD : Hid (ins .u8 (nums (Rc.dg 4 t)) = [Value.int .u8 b0, .int .u8 b1, .int .u8 b2, .int .u8 b3]) := dg4 t ht b0 b1 b2 b3 (by omega) (by omega) (by omega) (by omega)
      have HLEN : Hid (n6 + 4 ≤ 140737488355328) := by show n6 + 4 ≤ _; omega
      have HONE4 : Hid (∀ u ∈ [Value.int .u8 b0, .int .u8 b1, .int .u8 b2, .int .u8 b3], u.oneCell' = true) := four8 b0 b1 b2 b3
      have K30 : Hid (w0.cell? ⟨a, 3, none⟩ = some (.int .u32 (t : Int))) := (cells5 HH.out.blk).2.2.2.1
      have k36 := cell_chg K30.out hc
      rw [← hn6, ← hx6] at ho
      have HO6 : Hid (wr.ownsRow w0.heap.size 5 1 (.slice ad5 n6 cap5) n6 xs6) := ho
      have HC6 : Hid (Chg (fun _ => False) w0 wr) := hc
      have HSZ : Hid (w0.heap.size ≤ wr.heap.size) := hc.size
      have HX6 : Hid (xs6 ++ [Value.int .u8 b0, .int .u8 b1, .int .u8 b2, .int .u8 b3] = ins .u8 (nums (Rc.digs ⟨s, d, j, t⟩)) ∧ n6 + 4 = s.length + j + 5) := by
        refine ⟨?_, by omega⟩
        have e : Rc.digs ⟨s, d, j, t⟩ = (s ++ d :: List.replicate j 255) ++ Rc.dg 4 t := by simp [Rc.digs]
        rw [e, ins_app, HD.out, hx6]
      clear ho hc hx6 HH
      rw [← hn6]
      clear hn6
      have hdj : decide ((j : Int) < (j : Int)) = false := by simp
      go_wp2_with fail
      generalize wr = W6 at *
      refine wp_region_phase (mk := fun u => #[_, _, _, _, _, _, _, _, _, _, _, _, _, _, _, _, _, _, _, _, _, _, _, _, _, _, _, _, _, _, u 30, u 31, u 32, u 33, u 34, u 35, u 36, u 37, u 38, u 39, u 40, u 41, u 42, u 43, u 44, u 45, u 46, u 47, u 48, u 49, u 50, u 51, u 52, u 53, u 54, u 55]) (G := lookG [(30, .slice ad5 n6 cap5), (31, .pointer (some ⟨a, 0, none⟩)), (32, .pointer (some ⟨a, 0, none⟩)), (33, .pointer (some ⟨a, 3, none⟩)), (34, .int .u32 (t : Int)), (35, .int .u32 b0), (36, .int .u8 b0), (37, .pointer (some ⟨a, 0, none⟩)), (38, .pointer (some ⟨a, 0, none⟩)), (39, .pointer (some ⟨a, 3, none⟩)), (40, .int .u32 (t : Int)), (41, .int .u32 y1), (42, .int .u8 b1), (43, .pointer (some ⟨a, 0, none⟩)), (44, .pointer (some ⟨a, 0, none⟩)), (45, .pointer (some ⟨a, 3, none⟩)), (46, .int .u32 (t : Int)), (47, .int .u32 y2), (48, .int .u8 b2), (49, .pointer (some ⟨a, 0, none⟩)), (50, .pointer (some ⟨a, 0, none⟩)), (51, .pointer (some ⟨a, 3, none⟩)), (52, .int .u32 (t : Int)), (53, .int .u8 b3)]) (J := fun q u w => w.cell? ⟨a, 3, none⟩ = some (.int .u32 (t : Int)) ∧ FourJ w0 W6 n6 xs6 b0 b1 b2 b3 (u 54) (u 55) q w) [24, 25] (fun _ => undef) rfl (by kernel_rfl) 26 _ rfl rfl (by kernel_rfl) (by kernel_rfl) (by kernel_rfl) (by decide) ?_ ?_ ?_ ?_ ?_
      · repeat (refine ⟨⟨_, rfl, fun _ _ => rfl⟩, ?_⟩)
        exact trivial
      · intro q u u2 w h hj
        have e1 : u 54 = u2 54 := h 24 (by decide)
        have e2 : u 55 = u2 55 := h 25 (by decide)
        show _ ∧ FourJ w0 W6 n6 xs6 b0 b1 b2 b3 (u2 54) (u2 55) q w
        rw [← e1, ← e2]
        exact hj
      · exact ⟨cell_chg k36 (Chg.refl _ W6).drew, (Chg.refl _ W6).drew⟩
      · refine ⟨?_, ?_, ?_, ?_, ?_, ?_, ?_, ?_, ?_, ?_, ?_, ?_, ?_, ?_, ?_, ?_, ?_, ?_, ?_, ?_, ?_, ?_, ?_, ?_, ?_, ?_, trivial⟩
        · show StepR _ _ _ _ _ _  _ -- 30
          unfold StepR
          intro q u w hj hd K hK
          clear hd
          go_simp
          exact hK.out (.slice ad5 n6 cap5) rfl
        · show StepR _ _ _ _ _ _  _ -- 31
          unfold StepR
          intro q u w hj hd K hK
          clear hd
          go_simp
          exact hK.out (.pointer (some ⟨a, 0, none⟩)) rfl
        · show StepR _ _ _ _ _ _  _ -- 32
          unfold StepR
          intro q u w hj hd K hK
          have h31 : u 31 = .pointer (some ⟨a, 0, none⟩) := hd.get 1 (by kernel_rfl)
          clear hd
          simp only [h31] at hK
          go_simp
          exact hK.out (.pointer (some ⟨a, 0, none⟩)) rfl
        · show StepR _ _ _ _ _ _  _ -- 33
          unfold StepR
          intro q u w hj hd K hK
          have h32 : u 32 = .pointer (some ⟨a, 0, none⟩) := hd.get 2 (by kernel_rfl)
          clear hd
          simp only [h32] at hK
          go_simp
          exact hK.out (.pointer (some ⟨a, 3, none⟩)) rfl
        · show StepR _ _ _ _ _ _  _ -- 34
          unfold StepR
          intro q u w hj hd K hK
          have h33 : u 33 = .pointer (some ⟨a, 3, none⟩) := hd.get 3 (by kernel_rfl)
          clear hd
          simp only [h33] at hK
          have hcell := hj.1
          go_simp
          exact hK.out _ rfl
        · show StepR _ _ _ _ _ _  _ -- 35
          unfold StepR
          intro q u w hj hd K hK
          have h34 : u 34 = .int .u32 (t : Int) := hd.get 4 (by kernel_rfl)
          clear hd
          simp only [h34] at hK
          go_simp
          exact hK.out (.int .u32 b0) rfl
        · show StepR _ _ _ _ _ _  _ -- 36
          unfold StepR
          intro q u w hj hd K hK
          have h35 : u 35 = .int .u32 b0 := hd.get 5 (by kernel_rfl)
          clear hd
          simp only [h35] at hK
          go_simp
          first | exact hK.out (.int .u8 b0) rfl | (rw [hw0]; exact hK.out (.int .u8 b0) rfl)
        · show StepR _ _ _ _ _ _  _ -- 37
          unfold StepR
          intro q u w hj hd K hK
          clear hd
          go_simp
          exact hK.out (.pointer (some ⟨a, 0, none⟩)) rfl
        · show StepR _ _ _ _ _ _  _ -- 38
          unfold StepR
          intro q u w hj hd K hK
          have h37 : u 37 = .pointer (some ⟨a, 0, none⟩) := hd.get 7 (by kernel_rfl)
          clear hd
          simp only [h37] at hK
          go_simp
          exact hK.out (.pointer (some ⟨a, 0, none⟩)) rfl
        · show StepR _ _ _ _ _ _  _ -- 39
          unfold StepR
          intro q u w hj hd K hK
          have h38 : u 38 = .pointer (some ⟨a, 0, none⟩) := hd.get 8 (by kernel_rfl)
          clear hd
          simp only [h38] at hK
          go_simp
          exact hK.out (.pointer (some ⟨a, 3, none⟩)) rfl
        · show StepR _ _ _ _ _ _  _ -- 40
          unfold StepR
          intro q u w hj hd K hK
          have h39 : u 39 = .pointer (some ⟨a, 3, none⟩) := hd.get 9 (by kernel_rfl)
          clear hd
          simp only [h39] at hK
          have hcell := hj.1
          go_simp
          exact hK.out _ rfl
        · show StepR _ _ _ _ _ _  _ -- 41
          unfold StepR
          intro q u w hj hd K hK
          have h40 : u 40 = .int .u32 (t : Int) := hd.get 10 (by kernel_rfl)
          clear hd
          simp only [h40] at hK
          go_simp
          exact hK.out (.int .u32 y1) rfl
        · show StepR _ _ _ _ _ _  _ -- 42
          unfold StepR
          intro q u w hj hd K hK
          have h41 : u 41 = .int .u32 y1 := hd.get 11 (by kernel_rfl)
          clear hd
          simp only [h41] at hK
          go_simp
          first | exact hK.out (.int .u8 b1) rfl | (rw [hw1]; exact hK.out (.int .u8 b1) rfl)
        · show StepR _ _ _ _ _ _  _ -- 43
          unfold StepR
          intro q u w hj hd K hK
          clear hd
          go_simp
          exact hK.out (.pointer (some ⟨a, 0, none⟩)) rfl
        · show StepR _ _ _ _ _ _  _ -- 44
          unfold StepR
          intro q u w hj hd K hK
          have h43 : u 43 = .pointer (some ⟨a, 0, none⟩) := hd.get 13 (by kernel_rfl)
          clear hd
          simp only [h43] at hK
          go_simp
          exact hK.out (.pointer (some ⟨a, 0, none⟩)) rfl
        · show StepR _ _ _ _ _ _  _ -- 45
          unfold StepR
          intro q u w hj hd K hK
          have h44 : u 44 = .pointer (some ⟨a, 0, none⟩) := hd.get 14 (by kernel_rfl)
          clear hd
          simp only [h44] at hK
          go_simp
          exact hK.out (.pointer (some ⟨a, 3, none⟩)) rfl
        · show StepR _ _ _ _ _ _  _ -- 46
          unfold StepR
          intro q u w hj hd K hK
          have h45 : u 45 = .pointer (some ⟨a, 3, none⟩) := hd.get 15 (by kernel_rfl)
          clear hd
          simp only [h45] at hK
          have hcell := hj.1
          go_simp
          exact hK.out _ rfl
        · show StepR _ _ _ _ _ _  _ -- 47
          unfold StepR
          intro q u w hj hd K hK
          have h46 : u 46 = .int .u32 (t : Int) := hd.get 16 (by kernel_rfl)
          clear hd
          simp only [h46] at hK
          go_simp
          exact hK.out (.int .u32 y2) rfl
        · show StepR _ _ _ _ _ _  _ -- 48
          unfold StepR
          intro q u w hj hd K hK
          have h47 : u 47 = .int .u32 y2 := hd.get 17 (by kernel_rfl)
          clear hd
          simp only [h47] at hK
          go_simp
          first | exact hK.out (.int .u8 b2) rfl | (rw [hw2]; exact hK.out (.int .u8 b2) rfl)
        · show StepR _ _ _ _ _ _  _ -- 49
          unfold StepR
          intro q u w hj hd K hK
          clear hd
          go_simp
          exact hK.out (.pointer (some ⟨a, 0, none⟩)) rfl
        · show StepR _ _ _ _ _ _  _ -- 50
          unfold StepR
          intro q u w hj hd K hK
          have h49 : u 49 = .pointer (some ⟨a, 0, none⟩) := hd.get 19 (by kernel_rfl)
          clear hd
          simp only [h49] at hK
          go_simp
          exact hK.out (.pointer (some ⟨a, 0, none⟩)) rfl
        · show StepR _ _ _ _ _ _  _ -- 51
          unfold StepR
          intro q u w hj hd K hK
          have h50 : u 50 = .pointer (some ⟨a, 0, none⟩) := hd.get 20 (by kernel_rfl)
          clear hd
          simp only [h50] at hK
          go_simp
          exact hK.out (.pointer (some ⟨a, 3, none⟩)) rfl
        · show StepR _ _ _ _ _ _  _ -- 52
          unfold StepR
          intro q u w hj hd K hK
          have h51 : u 51 = .pointer (some ⟨a, 3, none⟩) := hd.get 21 (by kernel_rfl)
          clear hd
          simp only [h51] at hK
          have hcell := hj.1
          go_simp
          exact hK.out _ rfl
        · show StepR _ _ _ _ _ _  _ -- 53
          unfold StepR
          intro q u w hj hd K hK
          have h52 : u 52 = .int .u32 (t : Int) := hd.get 22 (by kernel_rfl)
          clear hd
          simp only [h52] at hK
          go_simp
          first | exact hK.out (.int .u8 b3) rfl | (rw [hw3]; exact hK.out (.int .u8 b3) rfl)
        · show StepW _ _ _ _ _ _ 0 _ -- 54
          unfold StepW
          intro u w hj hd K hK
          have h36 : u 36 = .int .u8 b0 := hd.get 6 (by kernel_rfl)
          have h42 : u 42 = .int .u8 b1 := hd.get 12 (by kernel_rfl)
          have h48 : u 48 = .int .u8 b2 := hd.get 18 (by kernel_rfl)
          have h53 : u 53 = .int .u8 b3 := hd.get 23 (by kernel_rfl)
          clear hd
          simp only [h36, h42, h48, h53] at hK
          obtain ⟨j3, hc⟩ := hj
          go_simp
          have c2 := chg_one w (.cells #[.int .u8 b0, .int .u8 b1, .int .u8 b2, .int .u8 b3] 5)
          exact hK.out _ _ ⟨cell_chg j3 c2, chg_then hc c2, _, rfl, from_four w (.int .u8 b0) (.int .u8 b1) (.int .u8 b2) (.int .u8 b3) 5⟩ trivial
        · show StepW _ _ _ _ _ _ 1 _ -- 55
          unfold StepW
          intro u w hj hd K hK
          have h30 : u 30 = .slice ad5 n6 cap5 := hd.get 0 (by kernel_rfl)
          clear hd
          obtain ⟨j3, hc, c, hq, hf⟩ := hj
          refine step_append_moved (a := ⟨_, []⟩) (by rfl) (.tmp 30) (.tmp 54) 22 (by rfl) w0.heap.size 5 i0 (.int .u8 0) 1 1 Try.underlying22 hi hz0 hz1 hz2 rfl (by decide) (.slice ad5 n6 cap5) n6 xs6 (by exact h30) (some ⟨c, 0, none⟩) 4 4 (by exact hq) [Value.int .u8 b0, .int .u8 b1, .int .u8 b2, .int .u8 b3] (ownsRow_keep HO6.out hc (fun _ _ f => f)) hf HONE4.out (by have := HLEN.out; unfold maxLen; omega) (by have := HLEN.out; omega) (by have := hc.size; have := HSZ.out; omega) ?_
          intro v2 w2 ho hg hm
          have c3 : Chg (fun _ => False) w0 w2 := (chg_then HC6.out hc).grown hg (fun k e => .inr (HO6.out.lt k e).1)
          exact hK.out v2 w2 ⟨cell_chg K30.out c3, ho, c3⟩ trivial
      · intro u w hj hA K hK
        have e55 : u 55 = u 55 := rfl
        clear hA e55
        obtain ⟨_, ho, hc⟩ := hj
        obtain ⟨ad7, cap7, e55, _⟩ := own_any ho
        rw [e55] at ho
        rw [HX6.out.1, HX6.out.2] at ho
        have HO7 : Hid (w.ownsRow w0.heap.size 5 1 (.slice ad7 (n6 + 4) cap7) (s.length + j + 5) (ins .u8 (nums (Rc.digs ⟨s, d, j, t⟩)))) := by rw [← HX6.out.2] at ho ⊢; exact ho
        have HC7 : Hid (Chg (fun _ => False) w0 w) := hc
        clear ho hc
        go_simp
        refine hK.out _ _ ?_
        go_simp
        go_wp2
        go_ret
        exact ⟨_, rfl, HO7.out, HC7.out⟩

theorem bytes_any (B a : Nat) (v : Value) (e : Rc.E) (w : World) (h : Enc w B a v e) (hk : e.k + 5 ≤ 140737488355328) :
    Calls Try.prog 33 #[.pointer (some ⟨a, 0, none⟩)] w fun x w' => ∃ v', x = .returned v' ∧ w'.ownsRow w.heap.size 5 1 v' (e.k + 5) (ins .u8 (nums (Rc.by_ e))) ∧ Chg (fun _ => False) w w' := by
  obtain ⟨l, hE, hI⟩ := h
  have hlen := hI.len
  have hd := Rc.digs_is hI
  go_enter Try.func33, Try.ntmps33
  go_wp2_with fail
  refine (digits_any B a v l.s l.h l.r l.t e.R _ hE hI.ht (by omega)).mono ?_
  rintro x w1 ⟨v', rfl, ho, c1⟩
  have ho2 : w1.ownsRow w.heap.size 5 1 v' (e.k + 5) (ins .u8 (nums (Rc.by_ e))) := by rw [← hlen, ← hd]; exact ho
  obtain ⟨ad, cap, rfl, _⟩ := own_any ho2
  have HO : Hid (w1.ownsRow w.heap.size 5 1 (.slice ad (e.k + 5) cap) (e.k + 5) (ins .u8 (nums (Rc.by_ e)))) := ho2
  clear hE hI ho ho2 hd
  go_wp2
  go_ret
  exact ⟨_, rfl, HO.out, c1⟩
end Go.Proofs.Ytejopgopcocapaa
