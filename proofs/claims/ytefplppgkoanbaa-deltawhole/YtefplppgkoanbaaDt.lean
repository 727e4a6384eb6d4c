/- The document's sums, and Code; of no statement by itself. -/
import Derived.Test.YtefplppgkoanbaaDr
import Derived.Test.YtefplppgkoanbaaLastQ
namespace Go.Proofs.Ytefplppgkoanbaa
open Go.RowKit
set_option linter.unusedVariables false
set_option linter.unusedSimpArgs false
theorem wrS {p : Int} (h : -4611686018427387904 ≤ p) (h2 : p ≤ 4611686018427387904) : IntKind.i64.wrap p = p := by simp [IntKind.wrap, IntKind.signed, IntKind.bits]; omega
def SumJ (w0 : World) (aa : Option Addr) (i cc : Nat) (L : List Nat) (V q : Nat) (a b : Value) (w : World) : Prop := Chg (fun _ => False) w0 w ∧ (q ≤ 5 → ByO w w0.heap.size (.slice aa i cc) L) ∧ (q = 5 → ∃ g, a = .slice (some ⟨g, 0, none⟩) 1 1 ∧ Row8 w (some ⟨g, 0, none⟩) 1 1 [(V : Int)]) ∧ (q = 6 → ∃ a2 c2, b = .slice a2 (i + 1) c2 ∧ ByO w w0.heap.size b (L ++ [V]))
set_option maxHeartbeats 4000000 in
set_option maxRecDepth 100000 in
theorem rsums_any (ad : Option Addr) (n c : Nat) (bs : List Nat) (d : Nat) (hd : 1 ≤ d ∧ d ≤ 256) (w0 : World) (hr : Row8 w0 ad n c (nums bs)) (hg : Rc.Dig bs) (hn : n ≤ 140737488355328) : Calls Try.prog 27 #[.slice ad n c, .int .i64 (d : Int)] w0 fun e w' => ∃ ov, e = .returned ov ∧ ByO w' w0.heap.size ov (De19.cd true d bs) ∧ Chg (fun _ => False) w0 w' := by
  obtain ⟨iu, hiu, hu0, hu1, hu2⟩ := info_parts info5u
  have hbl : bs.length = n := by have h9 := hr.1; rw [nums_len] at h9; exact h9
  have HBL : Hid (bs.length = n) := hbl
  have HR : Hid (Row8 w0 ad n c (nums bs) ∧ Rc.Dig bs) := ⟨hr, hg⟩
  have HD : Hid (1 ≤ d ∧ d ≤ 256) := hd
  have hdi : (d : Int) ≤ 256 := by omega
  have hni : (n : Int) ≤ 140737488355328 := by omega
  clear hbl hr hg hd
  go_enter Try.func27, Try.ntmps27
  go_wp2_with fail
  go_loopw [5, 6] (fun v5 v6 wr => ∃ (i cc : Nat) (aa : Option Addr), i ≤ n ∧ v5 = .slice aa i cc ∧ v6 = .int .i64 (i : Int) ∧ Hid (ByO wr w0.heap.size (.slice aa i cc) (De19.cd true d (bs.take i)) ∧ Chg (fun _ => False) w0 wr)) (fun _ v6 _ => n - (intOf v6).toNat)
  case atStart => exact ⟨0, 0, none, by omega, rfl, rfl, byO_nil _ _, Chg.refl _ _⟩
  case round =>
    obtain ⟨i, cc, aa, hi, rfl, rfl, HI⟩ := hrel
    have hii : (i : Int) ≤ 140737488355328 := by omega
    by_cases hin : i < n
    rotate_left
    · have d0 : decide (i < n) = false := decide_eq_false hin
      have HE : Hid (ByO wr w0.heap.size (.slice aa i cc) (De19.cd true d bs)) := by
        show ByO _ _ _ _
        have h9 := HI.out.1
        rw [show bs.take i = bs by rw [List.take_of_length_le (by rw [HBL.out]; omega)]] at h9
        exact h9
      go_wp2
      go_ret
      exact ⟨_, rfl, HE.out, HI.out.2⟩
    · have d0 : decide (i < n) = true := decide_eq_true hin
      obtain ⟨b, off, rfl, hcs⟩ := row8_at (Bk.row8_chg HR.out.1 HI.out.2) (by omega)
      have kx0 := hcs i hin
      have hx9 : bs.getD i 0 < 256 := De19.By.get HR.out.2 i
      obtain ⟨L, hL⟩ : ∃ L, De19.cd true d (bs.take i) = L := ⟨_, rfl⟩
      have hLl : L.length = i := by rw [← hL, De19.cd_len, List.length_take, HBL.out]; omega
      have HLD : Hid (Rc.Dig L) := by rw [← hL]; exact De19.cd_by true d (bs.take i)
      have ha9 := dig_at HLD.out i d
      have HT : Hid (De19.cd true d (bs.take (i + 1)) = L ++ [(bs.getD i 0 + De19.at_ L i d) % 256]) := by
        show _ = _
        have hl : (bs.take i).length = i := by rw [List.length_take, HBL.out]; omega
        rw [take_one HBL.out hin, De19.cd_snoc, hl, if_pos rfl, hL]
        rfl
      have HL0 : Hid (ByO wr w0.heap.size (.slice aa i cc) L) := by show ByO _ _ _ _; rw [← hL]; exact HI.out.1
      have HRA : Hid (∀ ww, ByO ww w0.heap.size (.slice aa i cc) L → Calls Try.prog 31 #[.slice aa i cc, .int .i64 ((i : Int) - (d : Int))] ww fun e w' => e = .returned (.int .i64 ((De19.at_ L i d : Nat) : Int)) ∧ ww = w') := fun ww h => rat_d aa i cc L i d (Nat.le_refl _) HD.out (by omega) ww (byO_row' h) HLD.out
      obtain ⟨X, hX⟩ : ∃ X, bs.getD i 0 = X := ⟨_, rfl⟩
      obtain ⟨A, hA⟩ : ∃ A, De19.at_ L i d = A := ⟨_, rfl⟩
      obtain ⟨V, hV⟩ : ∃ V, (X + A) % 256 = V := ⟨_, rfl⟩
      rw [hX] at HT hx9 kx0
      rw [hA] at HT ha9 HRA
      rw [hV] at HT
      have kx : w0.cell? ⟨b, off + i, none⟩ = some (.int .u8 (X : Int)) := by
        obtain ⟨b2, off2, e2, h2⟩ := row8_at HR.out.1 (by omega)
        cases e2
        have h9 := h2 i hin
        rw [hX] at h9
        exact h9
      have t1 : ((X : Int) + (A : Int)).tmod 256 = (V : Int) := by rw [← hV]; rfl
      have hXi : (X : Int) ≤ 255 := by omega
      have hAi : (A : Int) ≤ 255 := by omega
      have hVi : (V : Int) ≤ 255 := by omega
      have HLL : Hid (L.length = i) := hLl
      have HCX : Hid (∀ ww, Chg (fun _ => False) w0 ww → Chg (fun _ => False) w0 ww) := fun _ h => h
      clear hX hA hV hx9 ha9 hL hLl hcs kx0 HLD
      go_upto_region 5 with fail
      refine wp_region_phaseQ (mk := fun u => #[_, _, _, _, _, _, _, _, _, _, _, _, _, u 13, u 14, u 15, u 16, u 17, u 18, u 19, u 20, u 21, u 22, u 23, u 24, u 25, u 26, u 27, u 28, _]) (G := lookG [(13, .slice aa i cc), (14, .slice (some ⟨b, off, none⟩) n c), (15, .int .i64 (i : Int)), (16, .pointer (some ⟨b, off + i, none⟩)), (17, .int .u8 (X : Int)), (18, .int .i64 (X : Int)), (19, .slice aa i cc), (20, .int .i64 (i : Int)), (21, .int .i64 (d : Int)), (22, .int .i64 ((i : Int) - (d : Int))), (23, .int .i64 (A : Int)), (24, .int .i64 ((X : Int) + (A : Int))), (25, .int .i64 (V : Int)), (26, .int .u8 (V : Int))]) (J := fun q u ww => SumJ w0 aa i cc L V q (u 27) (u 28) ww) [10, 11, 12, 13, 14, 15] (fun i => if i = 3 then 1 else if i = 4 then 1 else if i = 5 then 1 else 6) ([]) (fun slot => match slot with | 13 => u13 | 14 => u14 | 15 => u15 | 16 => u16 | 17 => u17 | 18 => u18 | 19 => u19 | 20 => u20 | 21 => u21 | 22 => u22 | 23 => u23 | 24 => u24 | 25 => u25 | 26 => u26 | 27 => u27 | 28 => u28 | _ => undef) rfl (by kernel_rfl) 16 _ rfl rfl (by kernel_rfl) (by kernel_rfl) (by kernel_rfl) (by decide) ?_ ?_ ?_ (by kernel_rfl) ?_ ?_
      · repeat (refine ⟨fun _ _ => rfl, ?_⟩)
        exact trivial
      · intro q u u2 ww h hj
        have e27 : u 27 = u2 27 := h 14 (by decide)
        have e28 : u 28 = u2 28 := h 15 (by decide)
        show SumJ _ _ _ _ _ _ _ _ _ _
        rw [← e27, ← e28]
        exact hj
      · exact ⟨(Chg.refl _ _).drew |> chg_then HI.out.2, fun _ => HL0.out.new (Chg.refl _ _).drew, fun e => absurd e (by omega), fun e => absurd e (by omega)⟩
      · refine ⟨?_, ?_, ?_, ?_, ?_, ?_, ?_, ?_, ?_, ?_, ?_, ?_, ?_, ?_, ?_, ?_, trivial⟩
        · show StepRQ _ _ _ _ _ _ _ _ _ -- 13
          unfold StepRQ
          intro qn hq u w_ hj hd K hK
          clear hd
          go_simp
          exact hK.out (.slice aa i cc) rfl
        · show StepRQ _ _ _ _ _ _ _ _ _ -- 14
          unfold StepRQ
          intro qn hq u w_ hj hd K hK
          clear hd
          go_simp
          exact hK.out (.slice (some ⟨b, off, none⟩) n c) rfl
        · show StepRQ _ _ _ _ _ _ _ _ _ -- 15
          unfold StepRQ
          intro qn hq u w_ hj hd K hK
          clear hd
          go_simp
          exact hK.out (.int .i64 (i : Int)) rfl
        · show StepRQ _ _ _ _ _ _ _ _ _ -- 16
          unfold StepRQ
          intro qn hq u w_ hj hd K hK
          have h14 : u 14 = .slice (some ⟨b, off, none⟩) n c := hd.get 1 (by kernel_rfl)
          have h15 : u 15 = .int .i64 (i : Int) := hd.get 2 (by kernel_rfl)
          clear hd
          simp only [h14, h15] at hK
          go_simp
          exact hK.out (.pointer (some ⟨b, off + i, none⟩)) rfl
        · show StepRQ _ _ _ _ _ _ _ _ _ -- 17
          unfold StepRQ
          intro qn hq u w_ hj hd K hK
          have h16 : u 16 = .pointer (some ⟨b, off + i, none⟩) := hd.get 3 (by kernel_rfl)
          clear hd
          simp only [h16] at hK
          have kq := cell_chg kx (HCX.out _ hj.1)
          clear hj
          go_simp
          exact hK.out _ rfl
        · show StepRQ _ _ _ _ _ _ _ _ _ -- 18
          unfold StepRQ
          intro qn hq u w_ hj hd K hK
          have h17 : u 17 = .int .u8 (X : Int) := hd.get 4 (by kernel_rfl)
          clear hd
          simp only [h17] at hK
          clear hj
          go_simp
          try rw [wrS (by omega) (by omega)]
          exact hK.out _ rfl
        · show StepRQ _ _ _ _ _ _ _ _ _ -- 19
          unfold StepRQ
          intro qn hq u w_ hj hd K hK
          clear hd
          go_simp
          exact hK.out (.slice aa i cc) rfl
        · show StepRQ _ _ _ _ _ _ _ _ _ -- 20
          unfold StepRQ
          intro qn hq u w_ hj hd K hK
          clear hd
          go_simp
          exact hK.out (.int .i64 (i : Int)) rfl
        · show StepRQ _ _ _ _ _ _ _ _ _ -- 21
          unfold StepRQ
          intro qn hq u w_ hj hd K hK
          clear hd
          go_simp
          exact hK.out (.int .i64 (d : Int)) rfl
        · show StepRQ _ _ _ _ _ _ _ _ _ -- 22
          unfold StepRQ
          intro qn hq u w_ hj hd K hK
          have h20 : u 20 = .int .i64 (i : Int) := hd.get 7 (by kernel_rfl)
          have h21 : u 21 = .int .i64 (d : Int) := hd.get 8 (by kernel_rfl)
          clear hd
          simp only [h20, h21] at hK
          clear hj
          go_simp
          try rw [wrS (by omega) (by omega)]
          exact hK.out _ rfl
        · show StepWQ _ _ _ _ _ _ _ _ _ -- 23
          unfold StepWQ
          intro u w_ hj hd K hK
          have h19 : u 19 = .slice aa i cc := hd.get 6 (by kernel_rfl)
          have h22 : u 22 = .int .i64 ((i : Int) - (d : Int)) := hd.get 9 (by kernel_rfl)
          clear hd
          simp only [h19, h22] at hK
          go_simp
          go_at_call 31
          refine (HRA.out w_ (hj.2.1 (by omega))).mono ?_
          rintro z w2 ⟨rfl, rfl⟩
          exact hK.out _ _ ⟨hj.1, fun _ => hj.2.1 (by omega), fun e => absurd e (by omega), fun e => absurd e (by omega)⟩ rfl
        · show StepWQ _ _ _ _ _ _ _ _ _ -- 24
          unfold StepWQ
          intro u w_ hj hd K hK
          have h18 : u 18 = .int .i64 (X : Int) := hd.get 5 (by kernel_rfl)
          have h23 : u 23 = .int .i64 (A : Int) := hd.get 10 (by kernel_rfl)
          clear hd
          simp only [h18, h23] at hK
          have HN : Hid _ := hj
          clear hj
          go_simp
          try rw [wrS (by omega) (by omega)]
          exact hK.out _ _ ⟨HN.out.1, fun _ => HN.out.2.1 (by omega), fun e => absurd e (by omega), fun e => absurd e (by omega)⟩ rfl
        · show StepWQ _ _ _ _ _ _ _ _ _ -- 25
          unfold StepWQ
          intro u w_ hj hd K hK
          have h24 : u 24 = .int .i64 ((X : Int) + (A : Int)) := hd.get 11 (by kernel_rfl)
          clear hd
          simp only [h24] at hK
          have HN : Hid _ := hj
          clear hj
          go_simp
          try rw [wrS (by omega) (by omega)]
          exact hK.out _ _ ⟨HN.out.1, fun _ => HN.out.2.1 (by omega), fun e => absurd e (by omega), fun e => absurd e (by omega)⟩ rfl
        · show StepWQ _ _ _ _ _ _ _ _ _ -- 26
          unfold StepWQ
          intro u w_ hj hd K hK
          have h25 : u 25 = .int .i64 (V : Int) := hd.get 12 (by kernel_rfl)
          clear hd
          simp only [h25] at hK
          have HN : Hid _ := hj
          clear hj
          go_simp
          try rw [wr8 (by omega) (by omega)]
          exact hK.out _ _ ⟨HN.out.1, fun _ => HN.out.2.1 (by omega), fun e => absurd e (by omega), fun e => absurd e (by omega)⟩ rfl
        · show StepWQ _ _ _ _ _ _ _ _ _ -- 27
          unfold StepWQ
          intro u w_ hj hd K hK
          have h26 : u 26 = .int .u8 (V : Int) := hd.get 13 (by kernel_rfl)
          clear hd
          simp only [h26] at hK
          have c1 := chg_one w_ (.cells #[.int .u8 (V : Int)] 5)
          have HN : Hid _ := hj
          clear hj
          go_simp
          exact hK.out _ _ ⟨chg_then HN.out.1 c1, fun _ => (HN.out.2.1 (by omega)).new c1, fun _ => ⟨_, rfl, Bk.row8_one w_ (V : Int) 5⟩, fun e => absurd e (by omega)⟩ trivial
        · show StepWQ _ _ _ _ _ _ _ _ _ -- 28
          unfold StepWQ
          intro u w_ hj hd K hK
          have h13 : u 13 = .slice aa i cc := hd.get 0 (by kernel_rfl)
          clear hd
          obtain ⟨hc, ho, hq, _⟩ := hj
          obtain ⟨g, e27, hrow⟩ := hq rfl
          have hoo := ho (by omega)
          unfold ByO at hoo
          rw [HLL.out] at hoo
          refine step_append_moved (a := ⟨_, []⟩) (by rfl) (.tmp 13) (.tmp 27) 22 (by rfl) w0.heap.size 5 iu (.int .u8 0) 1 1 Try.underlying22 hiu hu0 hu1 hu2 rfl (by decide) (.slice aa i cc) i ((nums L).map (Value.int .u8)) (by exact h13) (some ⟨g, 0, none⟩) 1 1 (by exact e27) ((nums [V]).map (Value.int .u8)) hoo hrow.src (oneB [V]) (by unfold maxLen; omega) (by omega) hc.size ?_
          intro v2 w2 ho2 hg hm
          have c2 : Chg (fun _ => False) w0 w2 := hc.grown hg (fun j e => .inr (byO_lt (ho (by omega)) e).1)
          have hby := byO_app ho2
          obtain ⟨a9, d9, hv9⟩ := form1 ho2
          exact hK.out v2 w2 ⟨c2, fun e => absurd e (by omega), fun e => absurd e (by omega), fun _ => ⟨a9, d9, hv9, hby⟩⟩ trivial
      · intro u w7 hj hA K hK
        obtain ⟨hc7, _, _, h3⟩ := hj
        obtain ⟨a2, dd2, e28, hby⟩ := h3 rfl
        rw [← HT.out] at hby
        rw [e28] at hby
        have HI2 : Hid (ByO w7 w0.heap.size (.slice a2 (i + 1) dd2) (De19.cd true d (bs.take (i + 1))) ∧ Chg (fun _ => False) w0 w7) := ⟨hby, hc7⟩
        clear hA hc7 hby h3
        simp only [e28] at hK ⊢
        go_simp
        refine hK.out _ _ ?_
        go_wp2_with fail
        exact ⟨⟨i + 1, dd2, a2, by omega, rfl, by go_num, HI2.out⟩, by simp [intOf]; omega⟩
end Go.Proofs.Ytefplppgkoanbaa
