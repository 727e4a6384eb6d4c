/- The document's differences: at, Good, Differences; of no statement by itself. -/
import Derived.Test.YtefplppgkoanbaaDp
import Derived.Test.YtefplppgkoanbaaDa
namespace Go.Proofs.Ytefplppgkoanbaa
open Go.RowKit
set_option linter.unusedVariables false
set_option linter.unusedSimpArgs false
theorem rgood_q (d : Int) (hd : I64 d) (w : World) : Calls Try.prog 14 #[.int .i64 d] w fun e w' => e = .returned (.bool (decide (goodD d))) ∧ w = w' := by
  have hd1 := hd.1
  have hd2 := hd.2
  clear hd
  by_cases h1 : 0 < d
  · have e1 : decide (0 < d) = true := decide_eq_true h1
    by_cases h2 : d ≤ 256
    · have e2 : decide (d ≤ 256) = true := decide_eq_true h2
      have e3 : decide (goodD d) = true := decide_eq_true ⟨by omega, h2⟩
      rw [e3]
      clear e3
      go_enter Try.func14, Try.ntmps14
      go_wp2
      go_ret
      exact ⟨rfl, rfl⟩
    · have e2 : decide (d ≤ 256) = false := decide_eq_false h2
      have e3 : decide (goodD d) = false := decide_eq_false (fun h => h2 h.2)
      rw [e3]
      clear e3
      go_enter Try.func14, Try.ntmps14
      go_wp2
      go_ret
      exact ⟨rfl, rfl⟩
  · have e1 : decide (0 < d) = false := decide_eq_false h1
    have e3 : decide (goodD d) = false := decide_eq_false (fun h => h1 (by have := h.1; omega))
    rw [e3]
    clear e3
    go_enter Try.func14, Try.ntmps14
    go_wp2
    go_ret
    exact ⟨rfl, rfl⟩
theorem rat_neg (v : Value) (i : Int) (h1 : -1000 ≤ i) (h : i < 0) (w : World) : Calls Try.prog 31 #[v, .int .i64 i] w fun e w' => e = .returned (.int .i64 0) ∧ w = w' := by
  have e1 : decide (i < 0) = true := decide_eq_true h
  go_enter Try.func31, Try.ntmps31
  go_wp2
  go_ret
  exact ⟨rfl, rfl⟩
theorem rat_pos (ad : Option Addr) (n c : Nat) (bs : List Nat) (j : Nat) (hj : j < n) (hn : n ≤ 140737488355328) (w : World) (hr : Row8 w ad n c (nums bs)) (hg : Rc.Dig bs) : Calls Try.prog 31 #[.slice ad n c, .int .i64 (j : Int)] w fun e w' => e = .returned (.int .i64 ((bs.getD j 0 : Nat) : Int)) ∧ w = w' := by
  obtain ⟨b, off, rfl, hc⟩ := row8_at hr (by omega)
  have hcell := hc j hj
  have hlt : bs.getD j 0 < 256 := by
    rw [List.getD_eq_getElem?_getD]
    cases e : bs[j]? with
    | none => simp
    | some y => exact hg y (List.mem_of_getElem? e)
  obtain ⟨V, hV⟩ : ∃ V, bs.getD j 0 = V := ⟨_, rfl⟩
  rw [hV] at hcell hlt ⊢
  have hVi : (V : Int) ≤ 255 := by omega
  have e1 : decide ((j : Int) < 0) = false := decide_eq_false (by omega)
  have hji : (j : Int) ≤ 140737488355328 := by omega
  have hjn : (j : Int) < (n : Int) := by omega
  clear hc hr hg hlt
  go_enter Try.func31, Try.ntmps31
  go_wp2
  go_ret
  exact ⟨rfl, rfl⟩
theorem rat_d (ad : Option Addr) (n c : Nat) (bs : List Nat) (i d : Nat) (hi : i ≤ n) (hd : 1 ≤ d ∧ d ≤ 256) (hn : n ≤ 140737488355328) (w : World) (hr : Row8 w ad n c (nums bs)) (hg : Rc.Dig bs) : Calls Try.prog 31 #[.slice ad n c, .int .i64 ((i : Int) - (d : Int))] w fun e w' => e = .returned (.int .i64 ((De19.at_ bs i d : Nat) : Int)) ∧ w = w' := by
  unfold De19.at_
  by_cases h : i < d
  · rw [if_pos h]
    exact rat_neg _ _ (by omega) (by omega) w
  · rw [if_neg h, show (i : Int) - (d : Int) = ((i - d : Nat) : Int) by omega]
    exact rat_pos ad n c bs (i - d) (by omega) hn w hr hg
theorem dig_at {bs : List Nat} (hg : Rc.Dig bs) (i d : Nat) : De19.at_ bs i d < 256 := De19.at_lt hg i d
theorem take_one {bs : List Nat} {i n : Nat} (h : bs.length = n) (hi : i < n) : bs.take (i + 1) = bs.take i ++ [bs.getD i 0] := by
  rw [List.take_add_one, List.getD_eq_getElem?_getD, List.getElem?_eq_getElem (by omega)]
  rfl
set_option maxHeartbeats 4000000 in
set_option maxRecDepth 100000 in
theorem rdiff_any (ad : Option Addr) (n c : Nat) (bs : List Nat) (d : Nat) (hd : 1 ≤ d ∧ d ≤ 256) (w0 : World) (hr : Row8 w0 ad n c (nums bs)) (hg : Rc.Dig bs) (hn : n ≤ 140737488355328) : Calls Try.prog 28 #[.slice ad n c, .int .i64 (d : Int)] w0 fun e w' => ∃ ov, e = .returned ov ∧ ByO w' w0.heap.size ov (De19.cd false d bs) ∧ Chg (fun _ => False) w0 w' := by
  obtain ⟨iu, hiu, hu0, hu1, hu2⟩ := info_parts info5u
  have hbl : bs.length = n := by have h9 := hr.1; rw [nums_len] at h9; exact h9
  have HBL : Hid (bs.length = n) := hbl
  have HR : Hid (Row8 w0 ad n c (nums bs) ∧ Rc.Dig bs) := ⟨hr, hg⟩
  have HD : Hid (1 ≤ d ∧ d ≤ 256) := hd
  have hdi : (d : Int) ≤ 256 := by omega
  have hni : (n : Int) ≤ 140737488355328 := by omega
  clear hbl hr hg hd
  go_enter Try.func28, Try.ntmps28
  go_wp2_with fail
  go_loopw [5, 6] (fun v5 v6 wr => ∃ (i cc : Nat) (aa : Option Addr), i ≤ n ∧ v5 = .slice aa i cc ∧ v6 = .int .i64 (i : Int) ∧ Hid (ByO wr w0.heap.size (.slice aa i cc) (De19.cd false d (bs.take i)) ∧ Chg (fun _ => False) w0 wr)) (fun _ v6 _ => n - (intOf v6).toNat)
  case atStart => exact ⟨0, 0, none, by omega, rfl, rfl, byO_nil _ _, Chg.refl _ _⟩
  case round =>
    obtain ⟨i, cc, aa, hi, rfl, rfl, HI⟩ := hrel
    have hii : (i : Int) ≤ 140737488355328 := by omega
    by_cases hin : i < n
    rotate_left
    · have d0 : decide (i < n) = false := decide_eq_false hin
      have HE : Hid (ByO wr w0.heap.size (.slice aa i cc) (De19.cd false d bs)) := by
        show ByO _ _ _ _
        have h9 := HI.out.1
        rw [show bs.take i = bs by rw [List.take_of_length_le (by rw [HBL.out]; omega)]] at h9
        exact h9
      go_wp2
      go_ret
      exact ⟨_, rfl, HE.out, HI.out.2⟩
    · have d0 : decide (i < n) = true := decide_eq_true hin
      have HA : Hid _ := rat_pos ad n c bs i hin hn wr (Bk.row8_chg HR.out.1 HI.out.2) HR.out.2
      have HB : Hid _ := rat_d ad n c bs i d hi HD.out hn wr (Bk.row8_chg HR.out.1 HI.out.2) HR.out.2
      have hx9 : bs.getD i 0 < 256 := De19.By.get HR.out.2 i
      have ha9 := dig_at HR.out.2 i d
      have HT : Hid (De19.cd false d (bs.take (i + 1)) = De19.cd false d (bs.take i) ++ [(bs.getD i 0 + 256 - De19.at_ bs i d) % 256]) := by
        show _ = _
        have hl : (bs.take i).length = i := by rw [List.length_take, HBL.out]; omega
        rw [take_one HBL.out hin, De19.cd_snoc, hl]
        have e1 : De19.at_ bs i d = De19.at_ (bs.take i) i d := by
          have h9 := De19.at_app (xs := bs.take i) (ys := bs.drop i) (i := i) (d := d) HD.out.1 (by omega)
          rw [List.take_append_drop] at h9
          exact h9
        rw [e1]
        rfl
      obtain ⟨X, hX⟩ : ∃ X, bs.getD i 0 = X := ⟨_, rfl⟩
      obtain ⟨A, hA⟩ : ∃ A, De19.at_ bs i d = A := ⟨_, rfl⟩
      obtain ⟨V, hV⟩ : ∃ V, (X + 256 - A) % 256 = V := ⟨_, rfl⟩
      rw [hX] at HA HT hx9
      rw [hA] at HB HT ha9
      rw [hV] at HT
      have t1 : ((X : Int) + 256 - (A : Int)).tmod 256 = (V : Int) := by rw [← hV, show (X : Int) + 256 - (A : Int) = ((X + 256 - A : Nat) : Int) by omega]; rfl
      have hXi : (X : Int) ≤ 255 := by omega
      have hAi : (A : Int) ≤ 255 := by omega
      have hVi : (V : Int) ≤ 255 := by omega
      clear hX hA hV hx9 ha9
      go_wp2_with fail
      refine Calls.mono HA.out ?_
      rintro zz wr ⟨rfl, rfl⟩
      go_wp2_with fail
      refine Calls.mono HB.out ?_
      rintro zz wr ⟨rfl, rfl⟩
      clear HA HB
      have c0 := chg_one wr (.cells #[.int .u8 (V : Int)] 5)
      have hlen : (De19.cd false d (bs.take i)).length = i := by rw [De19.cd_len, List.length_take, HBL.out]; omega
      have hown : (wr.alloc (.cells #[.int .u8 (V : Int)] 5)).ownsRow w0.heap.size 5 1 (.slice aa i cc) i ((nums (De19.cd false d (bs.take i))).map (Value.int .u8)) := by
        have h9 := HI.out.1.new c0
        unfold ByO at h9
        rw [hlen] at h9
        exact h9
      have hsrc := (Bk.row8_one wr (V : Int) 5).src
      have hone := oneB [V]
      have hB : w0.heap.size ≤ (wr.alloc (.cells #[.int .u8 (V : Int)] 5)).heap.size := Nat.le_trans HI.out.2.size c0.size
      have HC : Hid (Chg (fun _ => False) w0 (wr.alloc (.cells #[.int .u8 (V : Int)] 5))) := chg_then HI.out.2 c0
      clear c0 hlen
      go_wp2_with (at_builtin; refine wpList_append_moved rfl _ _ 22 rfl w0.heap.size 5 iu (.int .u8 0) 1 1 Try.underlying22 hiu hu0 hu1 hu2 rfl (by decide) _ i ((nums (De19.cd false d (bs.take i))).map (Value.int .u8)) rfl (some ⟨wr.heap.size, 0, none⟩) 1 1 rfl ((nums [V]).map (Value.int .u8)) ?h1 ?h2 ?h3 ?m1 ?m2 ?m3 ?_)
      case h1 => exact hown
      case h2 => exact hsrc
      case h3 => exact hone
      case m1 => unfold maxLen; omega
      case m2 => omega
      case m3 => exact hB
      intro v2 w2 ho2 hg2 hm2
      have c2 : Chg (fun _ => False) w0 w2 := HC.out.grown hg2 (fun j e => .inr (byO_lt HI.out.1 e).1)
      have hby := byO_app ho2
      rw [← HT.out] at hby
      obtain ⟨a2, dd2, rfl⟩ := form1 ho2
      have HI2 : Hid (ByO w2 w0.heap.size (.slice a2 (i + 1) dd2) (De19.cd false d (bs.take (i + 1))) ∧ Chg (fun _ => False) w0 w2) := ⟨hby, c2⟩
      clear ho2 hg2 hm2 c2 hby hown hsrc hone hB HC
      go_wp2_with fail
      exact ⟨⟨i + 1, dd2, a2, by omega, rfl, by go_num, HI2.out⟩, by simp [intOf]; omega⟩
end Go.Proofs.Ytefplppgkoanbaa
