/- The header at the front: its sum, its flags; the room; of no statement by themselves. -/
import Derived.Test.YtkncbanodpfccaaDoorHee
namespace Go.Proofs.YtkncbanodpfccaaDoor
open Go.RowKit
open St12
set_option linter.unusedVariables false
set_option linter.unusedSimpArgs false
theorem low4_iff {m : Nat} {ys : List Nat} (hl : ys.length = 4) (hd : Rc.Dig ys) (hm : m < 4294967296) : (Wire.lowNum (nums ys) = (m : Int)) ↔ ys = Cq.Crc.low m 4 := by
  match ys, hl with
  | [y0, y1, y2, y3], _ =>
    have h0 := hd y0 (by simp)
    have h1 := hd y1 (by simp)
    have h2 := hd y2 (by simp)
    have h3 := hd y3 (by simp)
    have e : Wire.lowNum (nums [y0, y1, y2, y3]) = (y0 : Int) + 256 * ((y1 : Int) + 256 * ((y2 : Int) + 256 * ((y3 : Int) + 256 * 0))) := rfl
    have e2 : Cq.Crc.low m 4 = [m % 256, m / 256 % 256, m / 256 / 256 % 256, m / 256 / 256 / 256 % 256] := rfl
    rw [e, e2]
    simp only [List.cons.injEq, and_true]
    constructor
    · intro h
      refine ⟨?_, ?_, ?_, ?_⟩ <;> omega
    · rintro ⟨a, b, c, d⟩
      omega
theorem lowNum4_bd {ys : List Nat} (hl : ys.length = 4) (hd : Rc.Dig ys) : 0 ≤ Wire.lowNum (nums ys) ∧ Wire.lowNum (nums ys) < 4294967296 := by
  have h := Wire.lowNum_bd (nums ys) (fun x hx => by
    obtain ⟨y, hy, rfl⟩ := List.mem_map.1 hx
    have := hd y hy
    omega)
  rw [nums_len, hl] at h
  exact ⟨h.1, by have := h.2; omega⟩
set_option maxHeartbeats 8000000 in
set_option maxRecDepth 100000 in
theorem summed21_any (ad : Option Addr) (n c : Nat) (bs : List Nat) (w0 : World) (hT : Cq.Tab w0) (h : Row8 w0 ad n c (nums bs)) (hd : Rc.Dig bs) (hc : n ≤ c) (h4 : 4 ≤ n) (hn : n ≤ 1024) : Calls Tryd.prog 47 #[.slice ad n c] w0 fun e w' => e = .returned (.bool (decide (bs.drop (n - 4) = crc4 (bs.take (n - 4))))) ∧ Chg (fun _ => False) w0 w' := by
  obtain ⟨P, hP⟩ : ∃ P, n - 4 = P := ⟨_, rfl⟩
  rw [hP]
  have hbl : bs.length = n := by have h9 := h.1; rw [nums_len] at h9; exact h9
  have i1 : (n : Int) - 4 = (P : Int) := by omega
  have hPi : (P : Int) ≤ 1020 := by omega
  have hcut1 : ∀ ww, (Instr.sliceAt 25 (.slice ad n c) (some (.int .i64 (P : Int))) none none).run Tryd.prog ww = .ok (.slice (cutZ ad c P 1) 4 (c - P)) ww := fun ww => by
    have h9 := run_cutZ_lo undBy elemBy sizeBy ad n c P ww (by omega)
    rw [show n - P = 4 by omega] at h9
    exact h9
  have hcut2 : ∀ ww, (Instr.sliceAt 25 (.slice ad n c) none (some (.int .i64 (P : Int))) none).run Tryd.prog ww = .ok (.slice ad P c) ww := fun ww => run_cutZ_hi undBy elemBy sizeBy ad n c P ww (by omega)
  obtain ⟨Y, hY⟩ : ∃ Y, bs.drop P = Y := ⟨_, rfl⟩
  obtain ⟨PR, hPR⟩ : ∃ PR, bs.take P = PR := ⟨_, rfl⟩
  have hYR : Row8 w0 (cutZ ad c P 1) 4 (c - P) (nums Y) := by
    have h9 := row8_cutZ h hc (k := P) (by omega)
    rw [show n - P = 4 by omega, hY] at h9
    exact h9
  have HPR : Hid (Row8 w0 ad P c (nums PR)) := by rw [← hPR]; exact row8_take h (by omega)
  have hdy : Rc.Dig Y := by rw [← hY]; exact dig_drop hd _
  have hdp : Rc.Dig PR := by rw [← hPR]; exact dig_take hd _
  have hyl : Y.length = 4 := by rw [← hY, List.length_drop]; omega
  have HYL : Hid (Y.length = 4) := hyl
  have hm := more_dig hdp
  have hlb := lowNum4_bd hyl hdy
  have hiff := low4_iff hyl hdy hm
  have HNR : Hid _ := Wire.newReader_any w0.heap.size (cutZ ad c P 1) 4 (c - P) (nums Y) w0 hYR (by omega) (Nat.le_refl _)
  have HLW : Hid (∀ (a : Nat) (w : World), Wire.Rd w0.heap.size w a w0.heap.size (nums Y) 0 → Calls Tryd.prog 66 #[.pointer (some ⟨a, 0, none⟩), .int .i64 4] w fun e w' => e = .returned (.tuple #[.int .u64 (Wire.lowNum (nums Y)), .int .i64 0]) ∧ Wire.Rd w0.heap.size w' a w0.heap.size (nums Y) (0 + 4) ∧ Chg (fun k => k = a) w w') := fun a w hr => Wire.rlow_core w0.heap.size a w0.heap.size 0 (nums Y) (nums Y) 4 w hr (by decide) (by decide) (by rw [nums_len, hyl]; decide) (fun x hx => by
    obtain ⟨y, hy, rfl⟩ := List.mem_map.1 hx
    have := hdy y hy
    omega) (by show _ = _; rw [List.drop_zero, List.take_of_length_le (by rw [nums_len, hyl]; exact Nat.le_refl _)])
  have HSM : Hid (∀ w, Chg (fun _ => False) w0 w → Calls Tryd.prog 45 #[.slice (some ⟨w.heap.size, 0, none⟩) 1 1] (w.alloc (.cells #[.slice ad P c] 25)) fun e w' => e = .returned (.int .u32 (Cq.Crc.more Cq.Crc.P32 32 0 PR : Nat)) ∧ w.alloc (.cells #[.slice ad P c] 25) = w') := fun w hw => by
    have h9 := Cq.sum32_any ⟨w.heap.size, 0, none⟩ 1 1 [PR] (w.alloc (.cells #[.slice ad P c] 25)) (hT.new (chg_then hw (chg_one w _))) (Cq.pieces_one 25 ⟨ad, P, c, rfl, Bk.row8_chg HPR.out hw, hdp, by omega⟩) rfl (by decide)
    rw [show ([PR] : List (List Nat)).flatten = PR by simp] at h9
    exact h9
  have HEQ : Hid (decide (Y = crc4 PR) = (Wire.lowNum (nums Y) == ((Cq.Crc.more Cq.Crc.P32 32 0 PR : Nat) : Int))) := by
    show _ = _
    by_cases e : Y = crc4 PR
    · rw [decide_eq_true e, hiff.2 e]
      simp
    · rw [decide_eq_false e]
      symm
      simpa using fun f => e (hiff.1 f)
  obtain ⟨L, hL⟩ : ∃ L, Wire.lowNum (nums Y) = L := ⟨_, rfl⟩
  obtain ⟨M, hM⟩ : ∃ M, Cq.Crc.more Cq.Crc.P32 32 0 PR = M := ⟨_, rfl⟩
  rw [hL] at HLW HEQ hlb
  rw [hM] at HSM HEQ hm
  rw [hY, hPR]
  have hm0 : (M : Int) < 4294967296 := by omega
  have hl0 := hlb.1
  have hl1 := hlb.2
  clear hT h hd hc h4 hn hP hbl hY hPR hYR hdy hdp hyl hlb hiff hL hM hm
  go_enter Tryd.func47, Tryd.ntmps47
  go_wp2_with fail
  refine Calls.mono HNR.out ?_
  rintro z w1 ⟨a, rfl, hr, c1, ha⟩
  have HX : Hid _ := HLW.out a w1 hr
  have HC1 : Hid (Chg (fun _ => False) w0 w1 ∧ w0.heap.size ≤ a) := ⟨c1, ha⟩
  clear hr c1 ha HNR HLW
  go_wp2_with fail
  refine Calls.mono HX.out ?_
  rintro z w2 ⟨rfl, hr2, c2⟩
  have HC2 : Hid (Chg (fun _ => False) w0 w2) := HC1.out.1.trans c2 (fun g e => .inr (by have := HC1.out.2; omega))
  have HS2 : Hid _ := HSM.out w2 HC2.out
  clear hr2 c2 HC1 HX HSM
  go_wp2_with fail
  refine Calls.mono HS2.out ?_
  rintro z w3 ⟨rfl, rfl⟩
  go_wp2
  go_ret
  exact ⟨by rw [HEQ.out]; rfl, chg_then HC2.out (chg_one _ _)⟩
/-- The error that the header's frame has, 0: none. -/
def frE (bs : List Nat) : Int :=
  if bs.length = 0 then 1
  else if bs.getD 0 0 = 0 then 2
  else if bs.length < Hd21.size bs then 1
  else if (bs.drop (Hd21.size bs - 4)).take 4 ≠ crc4 (bs.take (Hd21.size bs - 4)) then 3
  else if bs.getD 1 0 / 4 % 16 ≠ 0 then 4 else 0
set_option maxHeartbeats 8000000 in
set_option maxRecDepth 100000 in
theorem front21_any (ad : Option Addr) (n c : Nat) (bs : List Nat) (w0 : World) (hT : Cq.Tab w0) (h : Row8 w0 ad n c (nums bs)) (hd : Rc.Dig bs) (hc : n ≤ c) (hn : n ≤ 140737488355328) : Calls Tryd.prog 24 #[.slice ad n c] w0 fun e w' => ((frE bs ≠ 0 ∧ e = .returned (.tuple #[.slice none 0 0, .int .i64 (frE bs)])) ∨ (frE bs = 0 ∧ e = .returned (.tuple #[.slice ad (Hd21.size bs) c, .int .i64 0]))) ∧ Chg (fun _ => False) w0 w' := by
  have hbl : bs.length = n := by have h9 := h.1; rw [nums_len] at h9; exact h9
  have hni : (n : Int) ≤ 140737488355328 := by omega
  obtain ⟨E, hE⟩ : ∃ E, frE bs = E := ⟨_, rfl⟩
  have hEE := hE
  unfold frE at hEE
  rw [hE]
  by_cases hn0 : n = 0
  · subst hn0
    rw [if_pos hbl] at hEE
    subst hEE
    clear h hd hE hbl hc hn
    go_enter Tryd.func24, Tryd.ntmps24
    go_wp2
    go_ret2
    exact ⟨.inl ⟨by decide, rfl⟩, Chg.refl _ _⟩
  obtain ⟨b, off, rfl, hcs⟩ := row8_at h (by omega)
  rw [if_neg (by rw [hbl]; exact hn0)] at hEE
  have y0 : ((n : Int) == 0) = false := by simp; omega
  have x0 : w0.cell? ⟨b, off, none⟩ = some (.int .u8 ((bs.getD 0 0 : Nat) : Int)) := by simpa using hcs 0 (by omega)
  have hb256 := dig_at hd 0
  obtain ⟨b0, hb0⟩ : ∃ b0, bs.getD 0 0 = b0 := ⟨_, rfl⟩
  have hS : Hd21.size bs = 4 * b0 + 4 := by unfold Hd21.size; rw [hb0]
  rw [hb0] at x0 hb256 hEE
  have hb0i : (b0 : Int) ≤ 255 := by omega
  have hn1 : (1 : Int) ≤ (n : Int) := by omega
  clear hn0
  by_cases k0 : b0 = 0
  · subst k0
    rw [if_pos rfl] at hEE
    subst hEE
    clear h hd hE hbl hc hn hcs hS hb0
    go_enter Tryd.func24, Tryd.ntmps24
    go_wp2
    go_ret2
    exact ⟨.inl ⟨by decide, rfl⟩, Chg.refl _ _⟩
  rw [if_neg k0] at hEE
  have y1 : ((b0 : Int) == 0) = false := by simp; omega
  obtain ⟨S, hSS⟩ : ∃ S, 4 * b0 + 4 = S := ⟨_, rfl⟩
  rw [hSS] at hS
  have i2 : 4 * ((b0 : Int) + 1) = (S : Int) := by omega
  have hSi : (S : Int) ≤ 1024 := by omega
  rw [hS] at hEE ⊢
  by_cases k1 : n < S
  · have d1 : decide ((n : Int) < (S : Int)) = true := decide_eq_true (by omega)
    have d1' : decide (n < S) = true := decide_eq_true k1
    rw [if_pos (by rw [hbl]; exact k1)] at hEE
    subst hEE
    clear h hd hE hbl hc hn hcs hS hb0 k1 hSS
    go_enter Tryd.func24, Tryd.ntmps24
    go_wp2
    go_ret2
    exact ⟨.inl ⟨by decide, rfl⟩, Chg.refl _ _⟩
  have d1 : decide ((n : Int) < (S : Int)) = false := decide_eq_false (by omega)
  have d1' : decide (n < S) = false := decide_eq_false k1
  rw [if_neg (by rw [hbl]; exact k1)] at hEE
  have hcut : ∀ ww, (Instr.sliceAt 25 (.slice (some ⟨b, off, none⟩) n c) none (some (.int .i64 (S : Int))) none).run Tryd.prog ww = .ok (.slice (some ⟨b, off, none⟩) S c) ww := fun ww => run_cutZ_hi undBy elemBy sizeBy _ n c S ww (by omega)
  have HX : Hid _ := summed21_any (some ⟨b, off, none⟩) S c (bs.take S) w0 hT (row8_take h (by omega)) (dig_take hd _) (by omega) (by omega) (by omega)
  have eD : (bs.take S).drop (S - 4) = (bs.drop (S - 4)).take 4 := by rw [List.drop_take]; congr 1; omega
  have eT : (bs.take S).take (S - 4) = bs.take (S - 4) := by rw [List.take_take, Nat.min_eq_left (by omega)]
  rw [eD, eT] at HX
  have x1 : w0.cell? ⟨b, off + 1, none⟩ = some (.int .u8 ((bs.getD 1 0 : Nat) : Int)) := hcs 1 (by omega)
  have hf256 := dig_at hd 1
  obtain ⟨fl, hfl⟩ : ∃ fl, bs.getD 1 0 = fl := ⟨_, rfl⟩
  rw [hfl] at x1 hf256 hEE
  have hfli : (fl : Int) ≤ 255 := by omega
  have hS8 : (8 : Int) ≤ (S : Int) := by omega
  have h60 := and60 hf256
  obtain ⟨z6, hz6⟩ : ∃ z, bits .and .u8 (fl : Int) 60 = z := ⟨_, rfl⟩
  have h60z : z6 = 0 ↔ fl / 4 % 16 = 0 := by rw [← hz6]; exact h60
  have HX1 : Hid (∀ ww, Chg (fun _ => False) w0 ww → ww.cell? ⟨b, off + 1, none⟩ = some (.int .u8 (fl : Int))) := fun ww hcw => cell_chg x1 hcw
  by_cases k2 : (bs.drop (S - 4)).take 4 = crc4 (bs.take (S - 4))
  rotate_left
  · rw [if_pos k2] at hEE
    subst hEE
    rw [decide_eq_false k2] at HX
    clear h hd hE hbl hc hn hcs hS hb0 k1 hSS k2 eD eT hfl h60 h60z hz6 x1 hT
    go_enter Tryd.func24, Tryd.ntmps24
    go_wp2_with fail
    refine Calls.mono HX.out ?_
    rintro z w2 ⟨rfl, c2⟩
    have HC2 : Hid _ := c2
    clear c2
    go_wp2
    go_ret2
    exact ⟨.inl ⟨by decide, rfl⟩, HC2.out⟩
  rw [if_neg (by simpa using k2)] at hEE
  rw [decide_eq_true k2] at HX
  by_cases k3 : fl / 4 % 16 = 0
  · rw [if_neg (by simpa using k3)] at hEE
    subst hEE
    have hz0 : z6 = 0 := h60z.2 k3
    subst hz0
    clear h hd hE hbl hc hn hcs hS hb0 k1 hSS k2 eD eT hfl h60 h60z x1 hT k3
    go_enter Tryd.func24, Tryd.ntmps24
    go_wp2_with fail
    refine Calls.mono HX.out ?_
    rintro z w2 ⟨rfl, c2⟩
    have HC2 : Hid _ := c2
    have x2 := HX1.out w2 c2
    clear c2
    go_wp2
    go_ret2
    exact ⟨.inr ⟨by first | trivial | rfl, rfl⟩, HC2.out⟩
  · rw [if_pos k3] at hEE
    subst hEE
    have hz0 : z6 ≠ 0 := fun f => k3 (h60z.1 f)
    have hz1 : (z6 != 0) = true := by simpa using hz0
    have hz2 : (z6 == 0) = false := by simpa using hz0
    clear h hd hE hbl hc hn hcs hS hb0 k1 hSS k2 eD eT hfl h60 h60z x1 hT k3
    go_enter Tryd.func24, Tryd.ntmps24
    go_wp2_with fail
    refine Calls.mono HX.out ?_
    rintro z w2 ⟨rfl, c2⟩
    have HC2 : Hid _ := c2
    have x2 := HX1.out w2 c2
    clear c2
    go_wp2
    go_ret2
    exact ⟨.inl ⟨by decide, rfl⟩, HC2.out⟩
set_option maxHeartbeats 4000000 in
set_option maxRecDepth 100000 in
theorem roomOf21_any (ad : Option Addr) (n c : Nat) (bs : List Nat) (w0 : World) (h : Row8 w0 ad n c (nums bs)) (hc : n ≤ c) (h8 : 8 ≤ n) (hn : n ≤ 1024) : Calls Tryd.prog 27 #[.slice ad n c] w0 fun e w' => ∃ a g, e = .returned (rmv a) ∧ Wire.Rd w0.heap.size w' a g (nums ((bs.take (n - 4)).drop 2)) 0 ∧ w0.heap.size ≤ a ∧ Chg (fun _ => False) w0 w' := by
  obtain ⟨P, hP⟩ : ∃ P, n - 4 = P := ⟨_, rfl⟩
  rw [hP]
  have i1 : (n : Int) - 4 = (P : Int) := by omega
  have hni : (n : Int) ≤ 1024 := by omega
  have hPi : (P : Int) ≤ 1020 := by omega
  have hP4 : (4 : Int) ≤ (P : Int) := by omega
  have hcut : ∀ ww, (Instr.sliceAt 25 (.slice ad n c) (some (.int .i64 2)) (some (.int .i64 (P : Int))) none).run Tryd.prog ww = .ok (.slice (cutZ ad c 2 1) (P - 2) (c - 2)) ww := fun ww => run_cutZ_lh ad n c 2 P ww (by omega) (by omega)
  have cA := chg_one w0 (.cells #[.pointer none] 63)
  have bA := heap_alloc_last w0 (.cells #[.pointer none] 63)
  have hrow := row8_cutZ2 (Bk.row8_chg h cA) hc (k := 2) (m := P - 2) (by omega)
  rw [← List.drop_take] at hrow
  have HX : Hid _ := Wire.newReader_any w0.heap.size (cutZ ad c 2 1) (P - 2) (c - 2) (nums ((bs.take P).drop 2)) (w0.alloc (.cells #[.pointer none] 63)) hrow (by omega) cA.size
  have HA : Hid (Chg (fun _ => False) w0 (w0.alloc (.cells #[.pointer none] 63)) ∧ (w0.alloc (.cells #[.pointer none] 63)).heap[w0.heap.size]? = some (.cells #[.pointer none] 63 (0, 0))) := ⟨cA, bA⟩
  clear h hP cA bA hrow hc h8 hn
  go_enter Tryd.func27, Tryd.ntmps27
  go_wp2_with fail
  refine Calls.mono HX.out ?_
  rintro z w2 ⟨a, rfl, hr, c2, ha⟩
  have hb2 := blk_keep HA.out.2 c2 (fun f => f)
  have x2 := cell00 hb2
  have f2 : w2.frozen? ⟨w0.heap.size, 0, none⟩ = false := by simp [World.frozen?, hb2]
  have hb3 := Vint.blk_setk (l := [.pointer none]) hb2 0 (.pointer (some ⟨a, 0, none⟩))
  have hc3 : Chg (fun z => z = w0.heap.size) w2 (w2.setCell ⟨w0.heap.size, 0, none⟩ (.pointer (some ⟨a, 0, none⟩))) := (Chg.refl (fun z => z = w0.heap.size) w2).setCell (p := ⟨w0.heap.size, 0, none⟩) (.inl rfl) _
  have hs1 : (w0.alloc (.cells #[.pointer none] 63)).heap.size = w0.heap.size + 1 := World.size_alloc _ _
  rw [hs1] at hr ha
  have HR : Hid (Wire.Rd w0.heap.size (w2.setCell ⟨w0.heap.size, 0, none⟩ (.pointer (some ⟨a, 0, none⟩))) a (w0.heap.size + 1) (nums ((bs.take P).drop 2)) 0 ∧ w0.heap.size ≤ a ∧ Chg (fun _ => False) w0 (w2.setCell ⟨w0.heap.size, 0, none⟩ (.pointer (some ⟨a, 0, none⟩)))) := ⟨hr.keep hc3 (by omega) (by omega), by omega, (chg_then HA.out.1 c2).trans hc3 (fun g e => .inr (by omega))⟩
  have x3 := cell00 hb3
  clear hr c2 ha hb2 hb3 hc3 hs1 HA HX
  go_wp2
  refine bodyPost_ret (v := .agg #[.pointer (some ⟨a, 0, none⟩)]) (by simp [results, Tryd.results27, go_sem, x3]) rfl ?_
  exact ⟨a, _, rfl, HR.out.1, HR.out.2.1, HR.out.2.2⟩
theorem assert21_any (e : Int) (w : World) : (Instr.typeAssert (.iface 26 (.int .i64 e)) 20 26 false).run Tryd.prog w = .ok (.int .i64 e) w := by kernel_rfl
set_option maxRecDepth 100000 in
theorem reason21_any (e : Int) (w : World) : Calls Tryd.prog 26 #[.iface 26 (.int .i64 e)] w fun x w' => x = .returned (.int .i64 e) ∧ w = w' := by
  have hta := assert21_any e
  go_enter Tryd.func26, Tryd.ntmps26
  go_wp2
  go_ret
  exact ⟨rfl, rfl⟩
end Go.Proofs.YtkncbanodpfccaaDoor
