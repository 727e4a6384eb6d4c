/- Rows that repeat: the walk of DeltaRows; of no statement by itself. -/
import Derived.Test.YtefplppgkoanbaaDa
namespace Go.Proofs.Ytefplppgkoanbaa
open Go.RowKit
set_option linter.unusedVariables false
set_option linter.unusedSimpArgs false
variable {Fi : World → Nat → Nat → (Nat → Prop) → Nat → Bool → List Nat → Prop}
theorem rep_succ (t : Nat) (row : List Nat) : (List.replicate (t + 1) row).flatten = (List.replicate t row).flatten ++ row := by
  rw [List.replicate_succ', List.flatten_append]
  simp
theorem rep_len (t : Nat) (row : List Nat) : (List.replicate t row).flatten.length = t * row.length := by simp
theorem rep_dig {t : Nat} {row : List Nat} (h : Rc.Dig row) : Rc.Dig (List.replicate t row).flatten := fun x hx => by
  rw [List.mem_flatten] at hx
  obtain ⟨l, hl, hx⟩ := hx
  rw [(List.mem_replicate.1 hl).2] at hx
  exact h x hx
set_option maxHeartbeats 8000000 in
set_option maxRecDepth 100000 in
theorem drows_any (S : DeltaSpec Fi) (ad : Option Addr) (n c : Nat) (bs : List Nat) (m : Int) (hm : I64 m) (w0 : World) (hr : Row8 w0 ad n c (nums bs)) (hg : Rc.Dig bs) (hn : n ≤ 140737488355328) : Calls Try.prog 3 #[.slice ad n c, .int .i64 m] w0 fun e w' => e = .returned (.bool true) ∧ Chg (fun _ => False) w0 w' := by
  have hni : (n : Int) ≤ 140737488355328 := by omega
  by_cases h0 : n = 0
  · subst h0
    go_enter Try.func3, Try.ntmps3
    go_wp2
    go_ret
    exact ⟨rfl, Chg.refl _ _⟩
  have e0 : ((n : Int) == 0) = false := by simp; omega
  by_cases h1 : 256 < n
  · have d1 : decide (256 < (n : Int)) = true := decide_eq_true (by omega)
    have d1' : decide (256 < n) = true := decide_eq_true h1
    clear h0 hr hg
    go_enter Try.func3, Try.ntmps3
    go_wp2
    go_ret
    exact ⟨rfl, Chg.refl _ _⟩
  have d1 : decide (256 < (n : Int)) = false := decide_eq_false (by omega)
  have d1' : decide (256 < n) = false := decide_eq_false h1
  by_cases h2 : m < 0
  · have d2 : decide (m < 0) = true := decide_eq_true h2
    clear h0 hr hg
    go_enter Try.func3, Try.ntmps3
    go_wp2
    go_ret
    exact ⟨rfl, Chg.refl _ _⟩
  have d2 : decide (m < 0) = false := decide_eq_false h2
  by_cases h3 : 20 < m
  · have d3 : decide (20 < m) = true := decide_eq_true h3
    clear h0 hr hg
    go_enter Try.func3, Try.ntmps3
    go_wp2
    go_ret
    exact ⟨rfl, Chg.refl _ _⟩
  have d3 : decide (20 < m) = false := decide_eq_false h3
  obtain ⟨t, rfl⟩ : ∃ t : Nat, (t : Int) = m := ⟨m.toNat, by omega⟩
  obtain ⟨iu, hiu, hu0, hu1, hu2⟩ := info_parts info5u
  have hbl : bs.length = n := by have h9 := hr.1; rw [nums_len] at h9; exact h9
  have HBL : Hid (bs.length = n) := hbl
  have HR : Hid (Row8 w0 ad n c (nums bs) ∧ Rc.Dig bs) := ⟨hr, hg⟩
  have HN : Hid (1 ≤ n ∧ n ≤ 256 ∧ t ≤ 20) := ⟨by omega, by omega, by omega⟩
  have hti : (t : Int) ≤ 20 := by omega
  have hn2 : (n : Int) ≤ 256 := by omega
  obtain ⟨rb, roff, rfl, hcell⟩ := row8_at hr (by omega)
  have HCL : Hid (∀ i, i < n → w0.cell? ⟨rb, roff + i, none⟩ = some (.int .u8 ((bs.getD i 0 : Nat) : Int))) := hcell
  clear hr hg hbl h0 h1 h2 h3 hcell hm
  go_enter Try.func3, Try.ntmps3
  go_wp2_with fail
  go_loopw [5, 6] (fun v5 v6 wr => ∃ (i L cc : Nat) (aa : Option Addr), i ≤ t ∧ v5 = .slice aa L cc ∧ v6 = .int .i64 (i : Int) ∧ Hid (L = i * n ∧ ByO wr w0.heap.size (.slice aa L cc) (List.replicate i bs).flatten ∧ Chg (fun _ => False) w0 wr)) (fun _ v6 _ => t - (intOf v6).toNat)
  case atStart => exact ⟨0, 0, 0, none, by omega, rfl, rfl, by simp, byO_nil _ _, Chg.refl _ _⟩
  case round =>
    obtain ⟨i, L, cc, aa, hi, rfl, rfl, HI⟩ := hrel
    have hii : (i : Int) ≤ 20 := by omega
    have hL9 : L ≤ 5120 := by
      have e1 := HI.out.1
      have e2 : i * n ≤ 20 * 256 := Nat.mul_le_mul (by omega) (by have := HN.out; omega)
      omega
    have hLi : (L : Int) ≤ 5120 := by omega
    by_cases hin : i < t
    · have d4 : decide ((i : Int) < (t : Int)) = true := decide_eq_true (by omega)
      have d4' : decide (i < t) = true := decide_eq_true hin
      have hlen : (List.replicate i bs).flatten.length = L := by rw [rep_len, HBL.out]; exact HI.out.1.symm
      have hown : wr.ownsRow w0.heap.size 5 1 (.slice aa L cc) L ((nums (List.replicate i bs).flatten).map (Value.int .u8)) := by
        have h9 := HI.out.2.1
        unfold ByO at h9
        rw [hlen] at h9
        exact h9
      have hsrc := (Bk.row8_chg HR.out.1 HI.out.2.2).src
      have hone := oneB bs
      have hB : w0.heap.size ≤ wr.heap.size := HI.out.2.2.size
      have HCX : Hid (Chg (fun _ => False) w0 wr) := HI.out.2.2
      have HLL : Hid (L = i * n) := HI.out.1
      have HLT : Hid (∀ g, (Value.slice aa L cc).ownBlock = some g → w0.heap.size ≤ g) := fun g e => (hown.lt g e).1
      clear HI hlen
      go_wp2_with (at_builtin; refine wpList_append_moved rfl _ _ 22 rfl w0.heap.size 5 iu (.int .u8 0) 1 1 Try.underlying22 hiu hu0 hu1 hu2 rfl (by decide) _ L ((nums (List.replicate i bs).flatten).map (Value.int .u8)) rfl (some ⟨rb, roff, none⟩) n c rfl ((nums bs).map (Value.int .u8)) ?h1 ?h2 ?h3 ?m1 ?m2 ?m3 ?_)
      case h1 => exact hown
      case h2 => exact hsrc
      case h3 => exact hone
      case m1 => unfold maxLen; omega
      case m2 => omega
      case m3 => exact hB
      intro v2 w2 ho2 hg2 hm2
      have c2 : Chg (fun _ => False) w0 w2 := HCX.out.grown hg2 (fun j e => .inr (HLT.out j e))
      have hby := byO_app ho2
      rw [← rep_succ] at hby
      obtain ⟨a2, dd2, rfl⟩ := form1 ho2
      have HI2 : Hid (L + n = (i + 1) * n ∧ ByO w2 w0.heap.size (.slice a2 (L + n) dd2) (List.replicate (i + 1) bs).flatten ∧ Chg (fun _ => False) w0 w2) := ⟨by rw [HLL.out, Nat.succ_mul], hby, c2⟩
      clear ho2 hg2 hm2 c2 hby hown hsrc hone hB HCX HLL HLT
      go_wp2_with fail
      exact ⟨⟨i + 1, L + n, dd2, a2, by omega, rfl, by go_num, HI2.out⟩, by simp [intOf]; omega⟩
    · have d4 : decide ((i : Int) < (t : Int)) = false := decide_eq_false (by omega)
      have d4' : decide (i < t) = false := decide_eq_false hin
      obtain rfl : t = i := by omega
      obtain ⟨hrow, hlen, hcap⟩ := byO_row HI.out.2.1
      have HB : Hid _ := both_any S n ⟨by have := HN.out; omega, by have := HN.out; omega⟩ aa L cc (List.replicate t bs).flatten wr hrow (rep_dig HR.out.2) (by omega)
      have HCX : Hid (Chg (fun _ => False) w0 wr) := HI.out.2.2
      have HLL : Hid (L = t * n ∧ (List.replicate t bs).flatten.length = L) := ⟨HI.out.1, hlen⟩
      clear HI hrow hlen hcap d4 d4' hin hi
      go_wp2_with fail
      refine Calls.mono HB.out ?_
      rintro z w3 ⟨x, y, rfl, hx, hy, _, c3⟩
      obtain ⟨xa, xc, rfl⟩ := byO_form hx
      obtain ⟨ya, yc, rfl⟩ := byO_form hy
      have hlx : (De19.cd false n (List.replicate t bs).flatten).length = L := by rw [De19.cd_len]; exact HLL.out.2
      have hly : (De19.cd true n (List.replicate t bs).flatten).length = L := by rw [De19.cd_len]; exact HLL.out.2
      rw [hlx, hly]
      rw [hlx] at hx
      have HX : Hid (Row8 w3 xa L xc (nums (De19.cd false n (List.replicate t bs).flatten))) := byO_row' hx
      have HC3 : Hid (Chg (fun _ => False) w0 w3) := chg_then HCX.out c3
      have HV : Hid (∀ i, i < L → (De19.cd false n (List.replicate t bs).flatten).getD i 0 = if i < n then bs.getD i 0 else 0) := fun i hi => by
        have h9 := De19.rows bs HR.out.2 (by rw [HBL.out]; have := HN.out; omega) t i (by rw [HBL.out, ← HLL.out.1]; exact hi)
        rw [HBL.out] at h9
        exact h9
      clear hx hy c3 HB hlx hly HCX
      go_wp2_with fail
      go_loopw [10] (fun v10 wq => ∃ j : Nat, j ≤ L ∧ v10 = .int .i64 (j : Int) ∧ w3 = wq) (fun v10 _ => L - (intOf v10).toNat)
      case atStart => exact ⟨0, by omega, rfl, rfl⟩
      case round =>
        obtain ⟨j, hj, rfl, rfl⟩ := hrel
        have hji : (j : Int) ≤ 5120 := by omega
        by_cases hjl : j < L
        · have d5 : decide ((j : Int) < (L : Int)) = true := decide_eq_true (by omega)
          have d5' : decide (j < L) = true := decide_eq_true hjl
          obtain ⟨xb, xoff, rfl, hxc⟩ := row8_at HX.out (by omega)
          have hxj := hxc j hjl
          rw [HV.out j hjl] at hxj
          clear hxc
          by_cases hjn : j < n
          · have d6 : decide ((j : Int) < (n : Int)) = true := decide_eq_true (by omega)
            have d6' : decide (j < n) = true := decide_eq_true hjn
            rw [if_pos hjn] at hxj
            have hrj := cell_chg (HCL.out j hjn) HC3.out
            generalize bs.getD j 0 = q at *
            have hqq : ((q : Int) != (q : Int)) = false := by simp
            go_wp2_with fail
            exact ⟨⟨j + 1, by omega, by go_num, trivial⟩, by simp [intOf]; omega⟩
          · have d6 : decide ((j : Int) < (n : Int)) = false := decide_eq_false (by omega)
            have d6' : decide (j < n) = false := decide_eq_false hjn
            rw [if_neg hjn] at hxj
            go_wp2_with fail
            exact ⟨⟨j + 1, by omega, by go_num, trivial⟩, by simp [intOf]; omega⟩
        · have d5 : decide ((j : Int) < (L : Int)) = false := decide_eq_false (by omega)
          have d5' : decide (j < L) = false := decide_eq_false hjl
          have HGT : Hid ((decide (0 < t) == decide (0 < L)) = true) := by
            show _ = _
            have h9 := HLL.out.1
            have h8 := HN.out
            by_cases ht : t = 0
            · have : L = 0 := by rw [h9, ht]; simp
              rw [ht, this]
              rfl
            · have : 0 < t * n := Nat.mul_pos (by omega) (by omega)
              rw [decide_eq_true (by omega : 0 < t), decide_eq_true (by omega : 0 < L)]
              rfl
          clear HX HV HLL
          go_wp2
          go_ret
          refine ⟨?_, HC3.out⟩
          show Ending.returned (Value.bool (decide (0 < t) == decide (0 < L))) = _
          rw [HGT.out]
end Go.Proofs.Ytefplppgkoanbaa
