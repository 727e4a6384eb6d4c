/- The program's small functions of a header that is put; of no statement by themselves. -/
import Derived.Test.YtkncbanodpfccaaDoorHeg
import Derived.Test.YtkncbanodpfccaaDoorCld
namespace Go.Proofs.YtkncbanodpfccaaDoor
open Go.RowKit
open St12
set_option linter.unusedVariables false
set_option linter.unusedSimpArgs false
set_option maxRecDepth 100000 in
theorem mayBe_any (n least : Int) (w : World) : Calls Tryd.prog 20 #[.int .i64 n, .int .i64 least] w fun e w' => e = .returned (.bool (decide (n = -1 ∨ least ≤ n))) ∧ w = w' := by
  by_cases h1 : n = -1
  · have e : decide (n = -1 ∨ least ≤ n) = true := decide_eq_true (.inl h1)
    have y1 : (n == -1) = true := by simp [h1]
    rw [e]
    clear e
    subst h1
    go_enter Tryd.func20, Tryd.ntmps20
    go_wp2
    go_ret
    exact ⟨rfl, rfl⟩
  · have e : decide (n = -1 ∨ least ≤ n) = decide (least ≤ n) := by simp [h1]
    have y1 : (n == -1) = false := by simpa using h1
    obtain ⟨B, hB⟩ : ∃ B, decide (least ≤ n) = B := ⟨_, rfl⟩
    have hB' : decide (n ≥ least) = B := hB
    rw [e, hB]
    clear e h1
    go_enter Tryd.func20, Tryd.ntmps20
    go_wp2
    go_ret
    exact ⟨by first | rfl | (rw [hB]) | (rw [hB']), rfl⟩
def tB (pk sz : Int) (k : Nat) : List Nat := (if 1 ≤ k then Hd21.told pk else []) ++ (if 2 ≤ k then Hd21.told sz else [])
def tF (pk sz : Int) (k : Nat) : Int := (if 1 ≤ k then (if pk = -1 then 0 else 64) else 0) + (if 2 ≤ k then (if sz = -1 then 0 else 128) else 0)
def nK (pk sz : Int) (k : Nat) : Int := if k = 0 then pk else sz
def fK (k : Nat) : Int := if k = 0 then 64 else 128
theorem tB_next (pk sz : Int) {k : Nat} (h : k < 2) : tB pk sz (k + 1) = tB pk sz k ++ Hd21.told (nK pk sz k) := by
  rcases (show k = 0 ∨ k = 1 by omega) with rfl | rfl
  · simp [tB, nK]
  · simp [tB, nK]
theorem tF_next (pk sz : Int) {k : Nat} (h : k < 2) : tF pk sz (k + 1) = tF pk sz k + (if nK pk sz k = -1 then 0 else fK k) := by
  rcases (show k = 0 ∨ k = 1 by omega) with rfl | rfl
  · simp [tF, nK, fK]
  · simp [tF, nK, fK]
theorem tF_bd (pk sz : Int) (k : Nat) : 0 ≤ tF pk sz k ∧ tF pk sz k ≤ 192 ∧ (k ≤ 1 → tF pk sz k ≤ 64) ∧ (k = 0 → tF pk sz k = 0) := by
  unfold tF
  split <;> split <;> (try split) <;> (try split) <;> omega
theorem tB_len (pk sz : Int) (k : Nat) : (tB pk sz k).length ≤ 18 := by
  have h1 := told_len pk
  have h2 := told_len sz
  unfold tB
  rw [List.length_append]
  split <;> split <;> simp <;> omega
theorem nf_cells {w : World} {L : Nat} {pk sz : Int} (h : w.heap[L]? = some (.cells #[.int .i64 pk, .int .u8 64, .int .i64 sz, .int .u8 128] 105 (0, 0))) {k : Nat} (hk : k < 2) : w.cell? ⟨L, k * 2, none⟩ = some (.int .i64 (nK pk sz k)) ∧ w.cell? ⟨L, k * 2 + 1, none⟩ = some (.int .u8 (fK k)) := by
  rcases (show k = 0 ∨ k = 1 by omega) with rfl | rfl
  · simp [World.cell?, h, nK, fK]
  · simp [World.cell?, h, nK, fK]
set_option maxHeartbeats 16000000 in
set_option maxRecDepth 100000 in
theorem toldSizes_any (pk sz by_ : Int) (fa : Option Addr) (fn fc : Nat) (w0 : World) (hT : Vint.Tab w0) (hp : pk = -1 ∨ 1 ≤ pk) (hs : -1 ≤ sz) (ip : I64 pk) (is : I64 sz) : Calls Tryd.prog 37 #[hdv pk sz (.slice fa fn fc) by_] w0 fun e w' => ∃ ba bc, e = .returned (.tuple #[.int .u8 (tF pk sz 2), .slice ba (tB pk sz 2).length bc, .int .i64 0]) ∧ ByO w' w0.heap.size (.slice ba (tB pk sz 2).length bc) (tB pk sz 2) ∧ Chg (fun _ => False) w0 w' := by
  obtain ⟨iu, hiu, hu0, hu1, hu2⟩ := info_parts info5u
  have HV : Hid (∀ (v : Nat) (w : World), Vint.Tab w → v ≤ 9223372036854775807 → Calls Tryd.prog 60 #[.int .u64 (v : Int)] w fun e w' => ∃ ad c, e = .returned (.tuple #[.slice ad (vbn v).length c, .int .i64 0]) ∧ Row8 w' ad (vbn v).length c (nums (vbn v)) ∧ Chg (fun _ => False) w w') := fun v w h1 hv => lvput_any v w h1 hv
  have HT : Hid (Vint.Tab w0) := hT
  have HP : Hid ((pk = -1 ∨ 1 ≤ pk) ∧ -1 ≤ sz ∧ pk ≤ 9223372036854775807 ∧ sz ≤ 9223372036854775807) := ⟨hp, hs, ip.2, is.2⟩
  have bA := heap_alloc_last w0 (.cells #[.int .i64 pk, .int .i64 sz, .slice fa fn fc, .int .i64 by_] 24)
  have cA := chg_one w0 (.cells #[.int .i64 pk, .int .i64 sz, .slice fa fn fc, .int .i64 by_] 24)
  obtain ⟨x0, x1, x2, x3⟩ := cells4h bA
  have bB := heap_alloc_last (w0.alloc (.cells #[.int .i64 pk, .int .i64 sz, .slice fa fn fc, .int .i64 by_] 24)) (.cells #[.int .i64 pk, .int .u8 64, .int .i64 sz, .int .u8 128] 105)
  have cB := chg_one (w0.alloc (.cells #[.int .i64 pk, .int .i64 sz, .slice fa fn fc, .int .i64 by_] 24)) (.cells #[.int .i64 pk, .int .u8 64, .int .i64 sz, .int .u8 128] 105)
  have hN1 : (w0.alloc (.cells #[.int .i64 pk, .int .i64 sz, .slice fa fn fc, .int .i64 by_] 24)).heap.size = w0.heap.size + 1 := World.size_alloc _ _
  rw [hN1] at bB
  have HST : Hid (((w0.alloc (.cells #[.int .i64 pk, .int .i64 sz, .slice fa fn fc, .int .i64 by_] 24)).alloc (.cells #[.int .i64 pk, .int .u8 64, .int .i64 sz, .int .u8 128] 105)).heap[w0.heap.size + 1]? = some (.cells #[.int .i64 pk, .int .u8 64, .int .i64 sz, .int .u8 128] 105 (0, 0)) ∧ Chg (fun _ => False) w0 ((w0.alloc (.cells #[.int .i64 pk, .int .i64 sz, .slice fa fn fc, .int .i64 by_] 24)).alloc (.cells #[.int .i64 pk, .int .u8 64, .int .i64 sz, .int .u8 128] 105)) ∧ w0.heap.size + 2 ≤ ((w0.alloc (.cells #[.int .i64 pk, .int .i64 sz, .slice fa fn fc, .int .i64 by_] 24)).alloc (.cells #[.int .i64 pk, .int .u8 64, .int .i64 sz, .int .u8 128] 105)).heap.size) := ⟨bB, chg_then cA cB, by rw [World.size_alloc, World.size_alloc]; omega⟩
  unfold hdv
  clear hT hp hs ip is bA cA bB cB hN1
  go_enter Tryd.func37, Tryd.ntmps37
  go_upto_region 4 with fail
  generalize (w0.alloc (.cells #[.int .i64 pk, .int .i64 sz, .slice fa fn fc, .int .i64 by_] 24)).alloc (.cells #[.int .i64 pk, .int .u8 64, .int .i64 sz, .int .u8 128] 105) = w1 at *
  clear x0 x1 x2 x3
  obtain ⟨N, hN⟩ : ∃ N, w0.heap.size = N := ⟨_, rfl⟩
  rw [hN] at HST
  try rw [hN]
  have HN : Hid (w0.heap.size = N) := hN
  clear hN
  go_wp2_with fail
  go_loopw [5, 6, 19] (fun fv bv iv wr => ∃ (k : Nat) (ba : Option Addr) (bc : Nat), k ≤ 2 ∧ iv = .int .i64 (k : Int) ∧ fv = .int .u8 (tF pk sz k) ∧ bv = .slice ba (tB pk sz k).length bc ∧ Hid (ByO wr (N + 2) (.slice ba (tB pk sz k).length bc) (tB pk sz k) ∧ wr.heap[N + 1]? = some (.cells #[.int .i64 pk, .int .u8 64, .int .i64 sz, .int .u8 128] 105 (0, 0)) ∧ Chg (fun _ => False) w0 wr ∧ N + 2 ≤ wr.heap.size)) (fun _ _ iv _ => 2 - (intOf iv).toNat)
  case atStart => exact ⟨0, none, 0, by decide, rfl, rfl, rfl, byO_nil _ _, HST.out.1, HST.out.2.1, HST.out.2.2⟩
  case round =>
    obtain ⟨k, ba, bc, hk, rfl, rfl, rfl, HI⟩ := hrel
    have hki : (k : Int) ≤ 2 := by omega
    obtain ⟨g0, g1, g2, _⟩ := tF_bd pk sz k
    have hlb := tB_len pk sz k
    obtain ⟨F, hF⟩ : ∃ F, tF pk sz k = F := ⟨_, rfl⟩
    obtain ⟨L, hL⟩ : ∃ L, (tB pk sz k).length = L := ⟨_, rfl⟩
    have HFL : Hid (tF pk sz k = F ∧ (tB pk sz k).length = L) := ⟨hF, hL⟩
    rw [hF] at g0 g1 g2
    rw [hL] at hlb HI
    rw [hF, hL]
    have hlbi : (L : Int) ≤ 18 := by omega
    clear hF hL
    by_cases hlt : k < 2
    · have d1 : decide ((k : Int) < 2) = true := decide_eq_true (by omega)
      have d1' : decide (k < 2) = true := decide_eq_true hlt
      obtain ⟨y0, y1⟩ := nf_cells HI.out.2.1 hlt
      have hk2i : (k : Int) < 2 := by omega
      have HNX : Hid (tB pk sz (k + 1) = tB pk sz k ++ Hd21.told (nK pk sz k) ∧ tF pk sz (k + 1) = F + (if nK pk sz k = -1 then 0 else fK k)) := ⟨tB_next pk sz hlt, by rw [tF_next pk sz hlt, HFL.out.1]⟩
      have hx : -1 ≤ nK pk sz k ∧ nK pk sz k ≤ 9223372036854775807 := by
        have := HP.out
        unfold nK
        split <;> omega
      have hf : (fK k = 64 ∨ fK k = 128) ∧ F + fK k ≤ 192 := by
        have := g2
        unfold fK
        split
        · next e => exact ⟨.inl rfl, by have := (tF_bd pk sz k).2.2.2 e; have := HFL.out.1; omega⟩
        · exact ⟨.inr rfl, by have := g2 (by omega); omega⟩
      obtain ⟨x, hxx⟩ : ∃ x, nK pk sz k = x := ⟨_, rfl⟩
      obtain ⟨f, hff⟩ : ∃ f, fK k = f := ⟨_, rfl⟩
      rw [hxx] at y0 HNX hx
      rw [hff] at y1 HNX hf
      have hf1 := hf.2
      have hf0 : 0 ≤ f := by have := hf.1; omega
      have hx1 := hx.1
      have hx2 := hx.2
      have HLT : Hid (k < 2) := hlt
      have bK := heap_alloc_last wr (.cells #[.int .i64 x, .int .u8 f] 105)
      have cK := chg_one wr (.cells #[.int .i64 x, .int .u8 f] 105)
      have HI2 : Hid (ByO (wr.alloc (.cells #[.int .i64 x, .int .u8 f] 105)) (N + 2) (.slice ba L bc) (tB pk sz k) ∧ (wr.alloc (.cells #[.int .i64 x, .int .u8 f] 105)).heap[N + 1]? = some (.cells #[.int .i64 pk, .int .u8 64, .int .i64 sz, .int .u8 128] 105 (0, 0)) ∧ Chg (fun _ => False) w0 (wr.alloc (.cells #[.int .i64 x, .int .u8 f] 105)) ∧ N + 2 ≤ (wr.alloc (.cells #[.int .i64 x, .int .u8 f] 105)).heap.size ∧ (wr.alloc (.cells #[.int .i64 x, .int .u8 f] 105)).heap[wr.heap.size]? = some (.cells #[.int .i64 x, .int .u8 f] 105 (0, 0))) := ⟨ByO.new HI.out.1 cK, blk_keep HI.out.2.1 cK (fun f => f), chg_then HI.out.2.2.1 cK, Nat.le_trans HI.out.2.2.2 cK.size, bK⟩
      clear hxx hff hf hx hlt bK cK HI
      go_upto_region 6 with fail
      obtain ⟨z0, z1, _, _⟩ := cells2f HI2.out.2.2.2.2
      generalize wr.alloc (.cells #[.int .i64 x, .int .u8 f] 105) = w3 at *
      by_cases hxm : x = -1
      · subst hxm
        have HB : Hid (tB pk sz (k + 1) = tB pk sz k ∧ tF pk sz (k + 1) = F) := ⟨by rw [HNX.out.1]; simp [Hd21.told], by rw [HNX.out.2]; simp⟩
        clear HNX
        go_wp2
        go_roundw
        case rel => exact ⟨k + 1, ba, bc, HLT.out, by go_num, by rw [HB.out.2], by rw [HB.out.1, HFL.out.2], by rw [HB.out.1, HFL.out.2]; exact HI2.out.1, HI2.out.2.1, HI2.out.2.2.1, HI2.out.2.2.2.1⟩
        case measure => simp [intOf]; have := HLT.out; omega
      · have q1 : (x == -1) = false := by simpa using hxm
        have hx0 : 0 ≤ x := by omega
        obtain ⟨m, hm⟩ : ∃ m : Nat, x = (m : Int) := ⟨x.toNat, by omega⟩
        subst hm
        have HB : Hid (tB pk sz (k + 1) = tB pk sz k ++ vbn m ∧ tF pk sz (k + 1) = F + f) := ⟨by rw [HNX.out.1]; unfold Hd21.told; rw [if_neg hxm, Int.toNat_natCast], by rw [HNX.out.2, if_neg hxm]⟩
        have hX := HV.out m w3 (HT.out.new HI2.out.2.2.1) (by omega)
        have hvl := vbn_le m
        obtain ⟨V, hVV⟩ : ∃ V, (vbn m).length = V := ⟨_, rfl⟩
        rw [hVV] at hX hvl
        have HVV : Hid ((vbn m).length = V) := hVV
        have HX : Hid _ := hX
        have hw : IntKind.u64.wrap (m : Int) = (m : Int) := by simp [IntKind.wrap, IntKind.signed, IntKind.bits]; omega
        clear HNX hxm hX hVV
        go_wp2_with fail
        refine Calls.mono HX.out ?_
        rintro z w4 ⟨a4, d4, rfl, hr4, c4⟩
        have z1' := cell_chg z1 c4
        have hown := ByO.new HI2.out.1 c4
        unfold ByO at hown
        rw [HFL.out.2] at hown
        have hsrc := hr4.src
        have hone := oneB (vbn m)
        have hB4 : N + 2 ≤ w4.heap.size := Nat.le_trans HI2.out.2.2.2.1 c4.size
        have HC4 : Hid (Chg (fun _ => False) w0 w4 ∧ w4.heap[N + 1]? = some (.cells #[.int .i64 pk, .int .u8 64, .int .i64 sz, .int .u8 128] 105 (0, 0))) := ⟨chg_then HI2.out.2.2.1 c4, blk_keep HI2.out.2.1 c4 (fun f => f)⟩
        have HLO : Hid (∀ j, (Value.slice ba L bc).ownBlock = some j → N + 2 ≤ j) := fun j e => (hown.lt j e).1
        have hv1 := hvl.1
        have hv2 : (V : Int) ≤ 9 := by omega
        clear z0 z1 hr4 c4 HX HI2 hvl
        go_wp2_with (at_builtin; refine wpList_append_moved rfl _ _ 25 rfl (N + 2) 5 iu (.int .u8 0) 1 1 Tryd.underlying25 hiu hu0 hu1 hu2 rfl (by decide) _ L ((nums (tB pk sz k)).map (Value.int .u8)) rfl a4 V d4 rfl ((nums (vbn m)).map (Value.int .u8)) ?h1 ?h2 ?h3 ?m1 ?m2 ?m3 ?_)
        case h1 => exact hown
        case h2 => exact hsrc
        case h3 => exact hone
        case m1 => unfold maxLen; omega
        case m2 => omega
        case m3 => exact hB4
        intro v6 w6 ho6 hg6 hm6
        have c6 : Chg (fun z => N + 2 ≤ z) w4 w6 := (Chg.refl _ _).grown hg6 (fun j e => .inl (HLO.out j e))
        have hby := byO_app (a := tB pk sz k) (b := vbn m) ho6
        obtain ⟨a6, d6, rfl⟩ := form1 ho6
        have HJ : Hid (ByO w6 (N + 2) (.slice a6 (L + V) d6) (tB pk sz k ++ vbn m) ∧ w6.heap[N + 1]? = some (.cells #[.int .i64 pk, .int .u8 64, .int .i64 sz, .int .u8 128] 105 (0, 0)) ∧ Chg (fun _ => False) w0 w6 ∧ N + 2 ≤ w6.heap.size) := ⟨hby, blk_keep HC4.out.2 c6 (by omega), HC4.out.1.trans c6 (fun z e => .inr (by have := HN.out; omega)), Nat.le_trans hB4 c6.size⟩
        clear hown hsrc hone hB4 ho6 hg6 hm6 c6 hby HC4 HLO z1'
        go_wp2
        go_roundw
        case rel =>
          have hll : (tB pk sz (k + 1)).length = L + V := by rw [HB.out.1, List.length_append, HFL.out.2, HVV.out]
          exact ⟨k + 1, a6, d6, HLT.out, by go_num, by rw [HB.out.2], by rw [hll], by rw [hll, HB.out.1]; exact HJ.out.1, HJ.out.2.1, HJ.out.2.2.1, HJ.out.2.2.2⟩
        case measure => simp [intOf]; have := HLT.out; omega
    · have d1 : decide ((k : Int) < 2) = false := decide_eq_false (by omega)
      have d1' : decide (k < 2) = false := decide_eq_false hlt
      have HK : Hid (k = 2) := by show _ = _; omega
      clear hlt
      go_wp2
      go_ret3
      have hk9 := HK.out
      subst hk9
      refine ⟨ba, bc, ?_, ?_, HI.out.2.2.1⟩
      · rw [HFL.out.1, HFL.out.2]; rfl
      · have h9 := owns_base HI.out.1 (show w0.heap.size ≤ N + 2 by rw [HN.out]; omega)
        rw [HFL.out.2]
        exact h9
end Go.Proofs.YtkncbanodpfccaaDoor
