/- The law's room and held, the walk of FrameReads; of no statement by themselves. -/
import Derived.Test.YtikokgngkagieaaDoorFrf
namespace Go.Proofs.YtikokgngkagieaaDoor
open Go.RowKit
set_option linter.unusedVariables false
set_option linter.unusedSimpArgs false
set_option maxHeartbeats 4000000 in
set_option maxRecDepth 100000 in
theorem room24_any (ad : Option Addr) (n c : Nat) (bs : List Nat) (w0 : World) (h : Row8 w0 ad n c (nums bs)) (hn : n + 1 ≤ 140737488355328) : Calls Tryd.prog 18 #[.slice ad n c] w0 fun e w' => ∃ oa oc, e = .returned (.slice oa n oc) ∧ ByO w' w0.heap.size (.slice oa (n + 1) oc) (bs ++ [77]) ∧ Chg (fun _ => False) w0 w' := by
  obtain ⟨iu, hiu, hu0, hu1, hu2⟩ := info_parts info5u
  have hbl : bs.length = n := by have h9 := h.1; rw [nums_len] at h9; exact h9
  have HBL : Hid (bs.length = n) := hbl
  have hni : (n : Int) + 1 ≤ 140737488355328 := by omega
  have c3 := chg_one w0 (.cells #[] 5)
  have hown3 := own_empty w0 5
  have hsrc3 := (Bk.row8_chg h c3).src
  have hone3 := oneB bs
  have hB3 : w0.heap.size ≤ (w0.alloc (.cells #[] 5)).heap.size := c3.size
  have HC3 : Hid (Chg (fun _ => False) w0 (w0.alloc (.cells #[] 5))) := c3
  clear c3 h hbl
  go_enter Tryd.func18, Tryd.ntmps18
  go_wp2_with (at_builtin; refine wpList_append_moved rfl _ _ 22 rfl w0.heap.size 5 iu (.int .u8 0) 1 1 Tryd.underlying22 hiu hu0 hu1 hu2 rfl (by decide) _ 0 [] rfl ad n c rfl ((nums bs).map (Value.int .u8)) ?h1 ?h2 ?h3 ?m1 ?m2 ?m3 ?_)
  case h1 => exact hown3
  case h2 => exact hsrc3
  case h3 => exact hone3
  case m1 => unfold maxLen; omega
  case m2 => omega
  case m3 => exact hB3
  intro v4 w4 ho4 hg4 hm4
  have c4 : Chg (fun _ => False) w0 w4 := HC3.out.grown hg4 (fun j e => .inr (by simp [Value.ownBlock] at e; omega))
  try simp only [List.nil_append, Nat.zero_add] at ho4
  obtain ⟨a4, d4, rfl⟩ := form1 ho4
  have cZ := chg_one w4 (.cells #[.int .u8 77] 5)
  have hown5 := ownsRow_keep ho4 cZ (fun _ _ f => f)
  have hsrc5 := (row8_lit24 w4 [77] 1 5 rfl #[.int .u8 77] rfl).src
  have hB5 : w0.heap.size ≤ (w4.alloc (.cells #[.int .u8 77] 5)).heap.size := (chg_then c4 cZ).size
  have HC5 : Hid (Chg (fun _ => False) w0 (w4.alloc (.cells #[.int .u8 77] 5))) := chg_then c4 cZ
  clear ho4 hg4 hm4 c4 hown3 hsrc3 hone3 hB3 HC3 cZ
  go_wp2_with (at_builtin; refine wpList_append_moved rfl _ _ 22 rfl w0.heap.size 5 iu (.int .u8 0) 1 1 Tryd.underlying22 hiu hu0 hu1 hu2 rfl (by decide) _ n ((nums bs).map (Value.int .u8)) rfl (some ⟨w4.heap.size, 0, none⟩) 1 1 rfl ((nums [77]).map (Value.int .u8)) ?g1 ?g2 ?g3 ?l1 ?l2 ?l3 ?_)
  case g1 => exact hown5
  case g2 => exact hsrc5
  case g3 => exact oneB [77]
  case l1 => unfold maxLen; omega
  case l2 => omega
  case l3 => exact hB5
  intro v6 w6 ho6 hg6 hm6
  have HC6 : Hid (Chg (fun _ => False) w0 w6) := HC5.out.grown hg6 (fun j e => .inr ((hown5.lt j e).1))
  have hby : ByO w6 w0.heap.size v6 (bs ++ [77]) := byO_app ho6
  obtain ⟨a6, d6, rfl⟩ := form1 ho6
  have hcap : n + 1 ≤ d6 := (byO_row hby).2.2
  have HBY : Hid (ByO w6 w0.heap.size (.slice a6 (n + 1) d6) (bs ++ [77])) := hby
  have hcut : ∀ ww, (Instr.sliceAt 22 (.slice a6 (n + 1) d6) none (some (.int .i64 (n : Int))) none).run Tryd.prog ww = .ok (.slice a6 n d6) ww := fun ww => run_cutZ_hi undBy elemBy sizeBy _ (n + 1) d6 n ww (by omega)
  clear ho6 hg6 hm6 hown5 hsrc5 hB5 hby HC5
  go_wp2
  go_ret
  exact ⟨a6, d6, rfl, HBY.out, HC6.out⟩
set_option maxHeartbeats 4000000 in
set_option maxRecDepth 100000 in
theorem held24_q (B : Nat) (la ad : Option Addr) (n lc c : Nat) (bs : List Nat) (w0 : World) (hl : ByO w0 B (.slice la (n + 1) lc) (bs ++ [77])) (h : Row8 w0 ad n c (nums bs)) (hn : n + 1 ≤ 140737488355328) : Calls Tryd.prog 21 #[.slice la n lc, .slice ad n c] w0 fun e w' => e = .returned (.bool true) ∧ ∃ k, w' = w0.drewN k := by
  obtain ⟨hr, hll, hcap⟩ := byO_row hl
  have hbl : bs.length = n := by have h9 := h.1; rw [nums_len] at h9; exact h9
  obtain ⟨b, off, rfl, hcs⟩ := row8_at hr (by omega)
  have hx := hcs n (by omega)
  have e77 : (bs ++ [77]).getD n 0 = 77 := by rw [List.getD_eq_getElem?_getD, ← hbl]; simp
  rw [e77] at hx
  have hni : (n : Int) + 1 ≤ 140737488355328 := by omega
  have hcut1 : ∀ ww, (Instr.sliceAt 22 (.slice (some ⟨b, off, none⟩) n lc) none (some (.int .i64 ((n : Int) + 1))) none).run Tryd.prog ww = .ok (.slice (some ⟨b, off, none⟩) (n + 1) lc) ww := fun ww => by
    have h9 := run_cutZ_hi undBy elemBy sizeBy (some ⟨b, off, none⟩) n lc (n + 1) ww (by omega)
    exact h9
  have hcut2 : ∀ ww, (Instr.sliceAt 22 (.slice (some ⟨b, off, none⟩) (n + 1) lc) none (some (.int .i64 (n : Int))) none).run Tryd.prog ww = .ok (.slice (some ⟨b, off, none⟩) n lc) ww := fun ww => run_cutZ_hi undBy elemBy sizeBy _ (n + 1) lc n ww (by omega)
  have hcv1 : ∀ k, (convert 22 9 (.slice ad n c)).run Tryd.prog (w0.drewN k) = .ok (.string (strOfNums (nums bs))) (w0.drewN k) := fun k => Bk.conv8 h k
  have hr2 : Row8 w0 (some ⟨b, off, none⟩) n lc (nums bs) := by
    have h9 := row8_take hr (i := n) (by omega)
    rw [List.take_append_of_le_length (by omega), List.take_of_length_le (by omega)] at h9
    exact h9
  have hcv2 : ∀ k, (convert 22 9 (.slice (some ⟨b, off, none⟩) n lc)).run Tryd.prog (w0.drewN k) = .ok (.string (strOfNums (nums bs))) (w0.drewN k) := fun k => Bk.conv8 hr2 k
  have hx0 : w0.cell? ⟨b, off + n, none⟩ = some (.int .u8 77) := hx
  clear hl h hr hll hcs hx hr2 hbl
  go_enter Tryd.func21, Tryd.ntmps21
  go_wp2_with (go_quiet (fail))
  go_ret
  exact ⟨rfl, _, rfl⟩
theorem held24_any (B : Nat) (la ad : Option Addr) (n lc c : Nat) (bs : List Nat) (w0 : World) (hl : ByO w0 B (.slice la (n + 1) lc) (bs ++ [77])) (h : Row8 w0 ad n c (nums bs)) (hn : n + 1 ≤ 140737488355328) : Calls Tryd.prog 21 #[.slice la n lc, .slice ad n c] w0 fun e w' => e = .returned (.bool true) ∧ Chg (fun _ => False) w0 w' := (held24_q B la ad n lc c bs w0 hl h hn).mono fun e w' ⟨he, k, hw⟩ => ⟨he, by rw [hw]; exact chg_drewN _ _⟩
variable {Tab : World → Prop}
set_option maxHeartbeats 16000000 in
set_option maxRecDepth 100000 in
theorem reads24_any (S : FrameSpec Tab) (ad : Option Addr) (n c : Nat) (bs : List Nat) (w0 : World) (hT : Tab w0) (h : Row8 w0 ad n c (nums bs)) (hd : Rc.Dig bs) (hc : n ≤ c) (hn : n + 1 ≤ 140737488355328) : Calls Tryd.prog 6 #[.slice ad n c] w0 fun e w' => e = .returned (.bool true) ∧ Chg (fun _ => False) w0 w' := by
  have HT : Hid (Tab w0) := hT
  have HFX : Hid (∀ w, Chg (fun _ => False) w0 w → Calls Tryd.prog 10 #[] w fun e w' => e = .returned (.bool true) ∧ Chg (fun _ => False) w w') := fun w hw => fixed24_any S w (S.keep hT hw)
  have HB : Hid (Row8 w0 ad n c (nums bs)) := h
  have HD : Hid (Rc.Dig bs) := hd
  have HN : Hid (n ≤ c ∧ n + 1 ≤ 140737488355328 ∧ bs.length = n) := ⟨hc, hn, by have h9 := h.1; rw [nums_len] at h9; exact h9⟩
  have HR : Hid _ := room24_any ad n c bs w0 h hn
  clear hT h hd hc hn
  go_enter Tryd.func6, Tryd.ntmps6
  go_wp2_with fail
  refine Calls.mono HR.out ?_
  rintro z w1 ⟨la, lc, rfl, hl, c1⟩
  have HL1 : Hid (ByO w1 w0.heap.size (.slice la (n + 1) lc) (bs ++ [77])) := hl
  have HC1 : Hid (Chg (fun _ => False) w0 w1) := c1
  obtain ⟨hr, hll, hcap⟩ := byO_row hl
  have hr2 : Row8 w1 la n lc (nums bs) := by
    have h9 := row8_take hr (i := n) (by omega)
    rw [List.take_append_of_le_length (by have := HN.out; omega), List.take_of_length_le (by have := HN.out; omega)] at h9
    exact h9
  have HR2 : Hid (Row8 w1 la n lc (nums bs)) := hr2
  have HLC : Hid (n ≤ lc) := by show _ ≤ _; omega
  have HX1 : Hid _ := S.rhead la n lc bs w1 (S.keep HT.out c1) hr2 HD.out (by omega) (by have := HN.out; omega)
  obtain ⟨RA, hRA⟩ : ∃ x, Fr24.rheadF bs = x := ⟨_, rfl⟩
  have HRA : Hid (Fr24.rheadF bs = RA) := hRA
  rw [hRA] at HX1
  obtain ⟨rk, re⟩ := RA
  clear hl c1 hr hll hcap hr2 hRA HR
  go_wp2_with fail
  refine Calls.mono HX1.out ?_
  rintro z w2 ⟨rfl, c2⟩
  have HC2 : Hid (Chg (fun _ => False) w0 w2) := chg_then HC1.out c2
  have HL2 : Hid (ByO w2 w0.heap.size (.slice la (n + 1) lc) (bs ++ [77])) := HL1.out.new c2
  have HR3 : Hid (Row8 w2 la n lc (nums bs)) := Bk.row8_chg HR2.out c2
  have HX2 : Hid _ := rrhead_any ad n c bs w2 (Bk.row8_chg HB.out HC2.out) HD.out HN.out.1 (by have := HN.out; omega)
  rw [HRA.out] at HX2
  clear c2 HX1 HC1 HL1 HR2 HRA
  go_wp2_with fail
  refine Calls.mono HX2.out ?_
  rintro z w3 ⟨rfl, c3⟩
  have HC3 : Hid (Chg (fun _ => False) w0 w3) := chg_then HC2.out c3
  have HL3 : Hid (ByO w3 w0.heap.size (.slice la (n + 1) lc) (bs ++ [77])) := HL2.out.new c3
  have HX3 : Hid _ := S.rfoot la n lc bs w3 (S.keep HT.out HC3.out) (Bk.row8_chg HR3.out c3) HD.out HLC.out (by have := HN.out; omega)
  obtain ⟨RB, hRB⟩ : ∃ x, Fr24.rfootF bs = x := ⟨_, rfl⟩
  have HRB : Hid (Fr24.rfootF bs = RB) := hRB
  rw [hRB] at HX3
  obtain ⟨fk, fn, fe⟩ := RB
  clear c3 HX2 HC2 HL2 HR3 hRB
  go_wp2_with fail
  refine Calls.mono HX3.out ?_
  rintro z w4 ⟨rfl, c4⟩
  have HC4 : Hid (Chg (fun _ => False) w0 w4) := chg_then HC3.out c4
  have HL4 : Hid (ByO w4 w0.heap.size (.slice la (n + 1) lc) (bs ++ [77])) := HL3.out.new c4
  have HX4 : Hid _ := rrfoot_any ad n c bs w4 (Bk.row8_chg HB.out HC4.out) HD.out HN.out.1 (by have := HN.out; omega)
  rw [HRB.out] at HX4
  clear c4 HX3 HC3 HL3 HRB
  go_wp2_with fail
  refine Calls.mono HX4.out ?_
  rintro z w5 ⟨rfl, c5⟩
  have HC5 : Hid (Chg (fun _ => False) w0 w5) := chg_then HC4.out c5
  have HX5 : Hid _ := held24_any _ la ad n lc c bs w5 (HL4.out.new c5) (Bk.row8_chg HB.out HC5.out) HN.out.2.1
  clear c5 HX4 HC4 HL4
  go_wp2_with fail
  refine Calls.mono HX5.out ?_
  rintro z w6 ⟨rfl, c6⟩
  have HC6 : Hid (Chg (fun _ => False) w0 w6) := chg_then HC5.out c6
  have hx := HFX.out w6 HC6.out
  have HX6 : Hid _ := hx
  clear c6 HX5 HC5 hx
  go_wp2_with fail
  refine Calls.mono HX6.out ?_
  rintro z w7 ⟨rfl, c7⟩
  have HC7 : Hid (Chg (fun _ => False) w0 w7) := chg_then HC6.out c7
  clear c7 HX6
  go_wp2
  go_ret
  exact ⟨rfl, HC7.out⟩
end Go.Proofs.YtikokgngkagieaaDoor
