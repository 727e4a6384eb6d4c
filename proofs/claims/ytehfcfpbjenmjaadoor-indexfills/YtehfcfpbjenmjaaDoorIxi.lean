/- The document's own number, sum and Put of an index; of no statement by themselves. -/
import Derived.Test.YtehfcfpbjenmjaaDoorIxf
namespace Go.Proofs.YtehfcfpbjenmjaaDoor
open Go.RowKit
set_option linter.unusedVariables false
set_option linter.unusedSimpArgs false
theorem cells8_vbn (v : Nat) : Vint.cells8 (Vint.vb (v : Int)) = (nums (vbn v)).map (Value.int .u8) := by rw [nums_vbn]; rfl
/-- The document's number's bytes, of one's own. -/
theorem rvput_any (v : Nat) (w : World) (h : v ≤ 9223372036854775807) : Calls Tryd.prog 64 #[.int .u64 (v : Int)] w fun e w' => ∃ ad c, e = .returned (.tuple #[.slice ad (vbn v).length c, .int .i64 0]) ∧ w'.ownsRow w.heap.size 5 1 (.slice ad (vbn v).length c) (vbn v).length ((nums (vbn v)).map (Value.int .u8)) ∧ Chg (fun _ => False) w w' := by
  refine (Vint.refPut_any (v : Int) w (by omega) (by omega)).mono fun e w' ⟨p, he, ho, hc⟩ => ?_
  rw [cells8_vbn, ← vbn_len] at ho
  obtain ⟨ad, c, rfl⟩ := form1 ho
  exact ⟨ad, c, he, ho, hc⟩
theorem byO_keepI {S : Nat → Prop} {B : Nat} {w w' : World} {v : Value} {bs : List Nat} (h : ByO w B v bs) (hc : Chg S w w') (hS : ∀ g, v.ownBlock = some g → ¬ S g) : ByO w' B v bs := owns_keepI h hc hS
set_option maxHeartbeats 4000000 in
set_option maxRecDepth 100000 in
theorem number23_any (B : Nat) (ad : Option Addr) (n c v : Nat) (bs : List Nat) (w0 : World) (h : ByO w0 B (.slice ad n c) bs) (hB : B ≤ w0.heap.size) (hn : n + 9 ≤ 140737488355328) (hv : v ≤ 9223372036854775807) : Calls Tryd.prog 46 #[.slice ad n c, .int .i64 (v : Int)] w0 fun e w' => ∃ oa oc, e = .returned (.slice oa (n + (vbn v).length) oc) ∧ ByO w' B (.slice oa (n + (vbn v).length) oc) (bs ++ vbn v) ∧ Chg (fun g => (Value.slice ad n c).ownBlock = some g) w0 w' := by
  obtain ⟨iu, hiu, hu0, hu1, hu2⟩ := info_parts info5u
  have hbl : bs.length = n := (byO_row h).2.1
  have HV : Hid _ := rvput_any v w0 hv
  have HO : Hid (ByO w0 B (.slice ad n c) bs) := h
  have HBL : Hid (bs.length = n) := hbl
  have hl := vbn_le v
  obtain ⟨L, hL⟩ : ∃ L, (vbn v).length = L := ⟨_, rfl⟩
  rw [hL] at HV hl ⊢
  have e1 : IntKind.u64.wrap (v : Int) = (v : Int) := w64 (by omega) (by omega)
  clear h hbl hL
  go_enter Tryd.func46, Tryd.ntmps46
  go_wp2_with fail
  refine Calls.mono HV.out ?_
  rintro z w1 ⟨a1, d1, rfl, ho1, c1⟩
  have hown := HO.out.new c1
  unfold ByO at hown
  rw [HBL.out] at hown
  have hsrc := own_from ho1
  have HC1 : Hid (Chg (fun _ => False) w0 w1) := c1
  have hB1 : B ≤ w1.heap.size := Nat.le_trans hB c1.size
  clear ho1 c1 HV HO
  go_wp2_with (at_builtin; refine wpList_append_moved rfl _ _ 22 rfl B 5 iu (.int .u8 0) 1 1 Tryd.underlying22 hiu hu0 hu1 hu2 rfl (by decide) _ n ((nums bs).map (Value.int .u8)) rfl a1 L d1 rfl ((nums (vbn v)).map (Value.int .u8)) ?h1 ?h2 ?h3 ?m1 ?m2 ?m3 ?_)
  case h1 => exact hown
  case h2 => exact hsrc
  case h3 => exact oneB _
  case m1 => unfold maxLen; omega
  case m2 => omega
  case m3 => exact hB1
  intro v2 w2 ho2 hg2 hm2
  have HC2 : Hid (Chg (fun g => (Value.slice ad n c).ownBlock = some g) w0 w2) := (HC1.out.mono (fun z f => f.elim)).grown hg2 (fun g e => .inl e)
  obtain ⟨oa, oc, rfl⟩ := form1 ho2
  have HO2 : Hid (ByO w2 B (.slice oa (n + L) oc) (bs ++ vbn v)) := byO_app ho2
  clear ho2 hg2 hm2 hown hsrc hB1
  go_wp2
  go_ret
  exact ⟨oa, oc, rfl, HO2.out, HC2.out⟩
theorem byO_lit4 (w : World) (x y z u : Nat) : ByO (w.alloc (.cells #[.int .u8 (x : Int), .int .u8 (y : Int), .int .u8 (z : Int), .int .u8 (u : Int)] 5)) w.heap.size (.slice (some ⟨w.heap.size, 0, none⟩) 4 4) [x, y, z, u] := by
  have h := World.ownsRow_lit (base := w.heap.size) (e := 5) (size := 1) w #[.int .u8 (x : Int), .int .u8 (y : Int), .int .u8 (z : Int), .int .u8 (u : Int)] 4 (Nat.le_refl _) (by decide) rfl
  exact h
set_option maxHeartbeats 4000000 in
set_option maxRecDepth 100000 in
theorem rsum23_any (ad : Option Addr) (n c : Nat) (bs : List Nat) (w0 : World) (h : Row8 w0 ad n c (nums bs)) (hd : Rc.Dig bs) (hl : n ≤ 140737488355328) : Calls Tryd.prog 47 #[.slice ad n c] w0 fun e w' => ∃ oa, e = .returned (.slice oa 4 4) ∧ ByO w' w0.heap.size (.slice oa 4 4) (crc4 bs) ∧ Chg (fun _ => False) w0 w' := by
  have HM : Hid _ := Cq.refmore32_any 0 ad n c bs w0 (by decide) h hd hl
  have hlt := more_dig hd
  have HE : Hid (crc4 bs = Cq.Crc.low (Cq.Crc.more Cq.Crc.P32 32 0 bs) 4) := rfl
  generalize Cq.Crc.more Cq.Crc.P32 32 0 bs = v at *
  obtain ⟨y0, h0⟩ : ∃ y, v % 256 = y := ⟨_, rfl⟩
  obtain ⟨y1, h1⟩ : ∃ y, v / 256 % 256 = y := ⟨_, rfl⟩
  obtain ⟨y2, h2⟩ : ∃ y, v / 65536 % 256 = y := ⟨_, rfl⟩
  obtain ⟨y3, h3⟩ : ∃ y, v / 16777216 % 256 = y := ⟨_, rfl⟩
  have HL : Hid (crc4 bs = [y0, y1, y2, y3]) := by
    show _ = _
    rw [HE.out]
    simp only [Cq.Crc.low, Nat.div_div_eq_div_mul, Nat.reduceMul, h0, h1, h2, h3]
  have e0 : IntKind.u8.wrap (v : Int) = (y0 : Int) := by simp [IntKind.wrap, IntKind.signed, IntKind.bits]; omega
  have e1 : IntKind.u8.wrap ((v : Int) / 256) = (y1 : Int) := by simp [IntKind.wrap, IntKind.signed, IntKind.bits]; omega
  have e2 : IntKind.u8.wrap ((v : Int) / 65536) = (y2 : Int) := by simp [IntKind.wrap, IntKind.signed, IntKind.bits]; omega
  have e3 : IntKind.u8.wrap ((v : Int) / 16777216) = (y3 : Int) := by simp [IntKind.wrap, IntKind.signed, IntKind.bits]; omega
  have HB : Hid _ := byO_lit4 w0 y0 y1 y2 y3
  have HC : Hid _ := chg_one w0 (.cells #[.int .u8 (y0 : Int), .int .u8 (y1 : Int), .int .u8 (y2 : Int), .int .u8 (y3 : Int)] 5)
  clear h hd h0 h1 h2 h3 HE
  go_enter Tryd.func47, Tryd.ntmps47
  go_wp2_with fail
  refine Calls.mono HM.out ?_
  rintro z w1 ⟨rfl, rfl⟩
  go_wp2
  go_ret
  exact ⟨_, rfl, by rw [HL.out]; exact HB.out, HC.out⟩
end Go.Proofs.YtehfcfpbjenmjaaDoor
