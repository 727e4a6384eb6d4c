/- The law's small functions over lists of symbols, and the document's literals; of no statement by themselves. -/
import Derived.Test.YtlnocjicmofjfaaDoorYl
namespace Go.Proofs.YtlnocjicmofjfaaDoor
open Go.RowKit
open St12 Sy13
set_option linter.unusedVariables false
set_option linter.unusedSimpArgs false

variable {Win : World → Nat → Nat → Value → Nat → List Nat → Prop} {Tab : World → Prop}
set_option maxHeartbeats 4000000 in
set_option maxRecDepth 100000 in
theorem rlits_any (ba : Option Addr) (bc bL : Nat) (bs : List Nat) (w0 : World) (hL : bs.length = bL) (hr : Row8 w0 ba bL bc (nums bs)) (hle : bL ≤ 1048576) : Calls Tryd.prog 36 #[.slice ba bL bc] w0 fun e w' => ∃ ov, e = .returned ov ∧ SymO w' w0.heap.size ov (bs.map litY) ∧ Chg (fun _ => False) w0 w' := by
  obtain ⟨iy, hiy, hy0, hy1, hy2⟩ := info_parts infoSym
  have HR0 : Hid (Row8 w0 ba bL bc (nums bs)) := hr
  have HBL : Hid (bs.length = bL) := hL
  obtain ⟨ls, hls⟩ : ∃ ls, bs.map litY = ls := ⟨_, rfl⟩
  have HLS : Hid (bs.map litY = ls ∧ ls.length = bL) := ⟨hls, by rw [← hls, List.length_map, hL]⟩
  rw [hls]
  clear hL hr hls
  go_enter Tryd.func36, Tryd.ntmps36
  go_wp2_with fail
  go_loopw [3, 4] (fun v1 v2 wr => ∃ (i lc : Nat) (la : Option Addr), i ≤ bL ∧ v1 = .slice la i lc ∧ v2 = .int .i64 (i : Int) ∧ Hid (SymO wr w0.heap.size (.slice la i lc) (ls.take i) ∧ Chg (fun _ => False) w0 wr)) (fun _ v2 _ => bL - (intOf v2).toNat)
  case atStart => exact ⟨0, 0, none, by omega, rfl, rfl, SymO.nil _ _, Chg.refl _ _⟩
  case round =>
    obtain ⟨i, lc, la, hi, rfl, rfl, HI⟩ := hrel
    have hii : (i : Int) ≤ (bL : Int) := by omega
    have hbi : (bL : Int) ≤ 1048576 := by omega
    by_cases hlt : i < bL
    · have hd1 : decide ((i : Int) < (bL : Int)) = true := by simp; omega
      have hd1' : decide (i < bL) = true := decide_eq_true hlt
      obtain ⟨x, hx⟩ : ∃ x, bs[i]? = some x := ⟨bs[i]'(by have := HBL.out; omega), List.getElem?_eq_getElem _⟩
      obtain ⟨bx, hbx, kb⟩ := row8_cell (row8_keep HR0.out HI.out.2 (fun _ _ f => f)) hx
      have HTK : Hid (ls.take (i + 1) = ls.take i ++ [litY x]) := by
        have hx2 : ls[i]? = some (litY x) := by rw [← HLS.out.1, List.getElem?_map, hx]; rfl
        have hlt' := (List.getElem?_eq_some_iff.1 hx2).1
        show _ = _
        rw [← List.take_append_getElem hlt', (List.getElem?_eq_some_iff.1 hx2).2]
      have hlk : (ls.take i).length = i := by rw [List.length_take]; have := HLS.out.2; omega
      have HLK : Hid _ := hlk
      have c1 := chg_one wr (.cells #[.int .i64 1, .int .u8 (x : Int), .int .i64 0, .int .i64 0] 33)
      have hsrc := from_sym wr (litY x) 33
      have hone := symcs_cell [litY x]
      have hown : (wr.alloc (.cells #[.int .i64 1, .int .u8 (x : Int), .int .i64 0, .int .i64 0] 33)).ownsRow w0.heap.size 33 4 (.slice la i lc) i (symcs (ls.take i)) := by
        have h9 := SymO.new HI.out.1 c1
        unfold SymO at h9
        rw [hlk] at h9
        exact h9
      have hszE : w0.heap.size ≤ (wr.alloc (.cells #[.int .i64 1, .int .u8 (x : Int), .int .i64 0, .int .i64 0] 33)).heap.size := by have := HI.out.2.size; rw [World.size_alloc]; omega
      have HCW : Hid (Chg (fun _ => False) w0 wr) := HI.out.2
      clear hx hlk HI
      subst hbx
      go_wp2_with (at_builtin; refine wpList_append_moved rfl _ _ 22 rfl w0.heap.size 33 iy (.agg #[.int .i64 0, .int .u8 0, .int .i64 0, .int .i64 0]) 4 32 Tryd.underlying22 hiy hy0 hy1 hy2 rfl (by decide) _ i (symcs (ls.take i)) rfl (some ⟨wr.heap.size, 0, none⟩) 1 1 rfl (symcs [litY x]) hown hsrc hone (by unfold maxLen; omega) (by omega) hszE ?_)
      intro v9 w9 ho9 hg9 hm9
      obtain ⟨a9, d9, hv9⟩ := formSym ho9
      subst hv9
      have c9 : Chg (fun z => (Value.slice la i lc).ownBlock = some z) (wr.alloc (.cells #[.int .i64 1, .int .u8 (x : Int), .int .i64 0, .int .i64 0] 33)) w9 := (Chg.refl _ _).grown hg9 (fun z e => .inl e)
      have HC9 : Hid (Chg (fun _ => False) w0 w9) := (chg_then HCW.out c1).trans c9 (fun z e => .inr (World.ownsRow.lt hown z e).1)
      have HS9 : Hid (SymO w9 w0.heap.size (.slice a9 (i + 1) d9) (ls.take (i + 1))) := by rw [HTK.out]; exact sym_app ho9 (by rw [List.length_append, HLK.out]; rfl)
      clear ho9 hg9 hm9 c9 c1 hown hsrc hone hszE kb
      go_wp2_with fail
      exact ⟨⟨i + 1, d9, a9, by omega, rfl, by go_num, HS9.out, HC9.out⟩, by simp [intOf]; omega⟩
    · have hd1 : decide ((i : Int) < (bL : Int)) = false := by simp; omega
      have hd1' : decide (i < bL) = false := decide_eq_false hlt
      have HS : Hid (SymO wr w0.heap.size (.slice la i lc) ls) := by
        have h9 := HI.out.1
        rw [List.take_of_length_le (by have := HLS.out.2; omega)] at h9
        exact h9
      have HC : Hid _ := HI.out.2
      clear HI
      go_wp2
      go_ret
      exact ⟨_, rfl, HS.out, HC.out⟩
def markY : Sym := ⟨-9, 0, 0, 0⟩
set_option maxHeartbeats 4000000 in
set_option maxRecDepth 100000 in
theorem lent_any (ad : Option Addr) (c len : Nat) (l : List Sym) (w0 : World) (hL : l.length = len) (hl : SymL w0 ad l) (hn : ad = none → c = 0 ∧ len = 0) (hle : len ≤ 1048576) : Calls Tryd.prog 31 #[.slice ad len c] w0 fun e w' => ∃ fa fc, e = .returned (.tuple #[.slice fa len fc, .slice fa (len + 1) fc]) ∧ SymO w' w0.heap.size (.slice fa (len + 1) fc) (l ++ [markY]) ∧ Chg (fun _ => False) w0 w' := by
  obtain ⟨iy, hiy, hy0, hy1, hy2⟩ := info_parts infoSym
  have cE := chg_one w0 (.cells #[] 33)
  have hown := own_emptyS w0
  have hsrc : From (w0.alloc (.cells #[] 33)) ad len c 4 (symcs l) := from_symL (hl.new cE) hL hn
  have hone := symcs_cell l
  have hszE : w0.heap.size ≤ (w0.alloc (.cells #[] 33)).heap.size := by rw [World.size_alloc]; omega
  have HLN : Hid (l.length = len) := hL
  clear hl hL hn
  go_enter Tryd.func31, Tryd.ntmps31
  go_wp2_with (at_builtin; refine wpList_append_moved rfl _ _ 22 rfl w0.heap.size 33 iy (.agg #[.int .i64 0, .int .u8 0, .int .i64 0, .int .i64 0]) 4 32 Tryd.underlying22 hiy hy0 hy1 hy2 rfl (by decide) _ 0 (symcs []) rfl ad len c rfl (symcs l) hown hsrc hone (by unfold maxLen; omega) (by omega) hszE ?_)
  intro v1 w1 ho1 hg1 hm1
  have c1 : Chg (fun z => (Value.slice (some ⟨w0.heap.size, 0, none⟩) 0 0).ownBlock = some z) (w0.alloc (.cells #[] 33)) w1 := (Chg.refl _ _).grown hg1 (fun z e => .inl e)
  have HC1 : Hid (Chg (fun _ => False) w0 w1) := cE.trans c1 (fun z e => .inr (World.ownsRow.lt hown z e).1)
  have HS1 : Hid (SymO w1 w0.heap.size v1 l) := sym_app (a := []) ho1 (by rw [List.nil_append, HLN.out])
  obtain ⟨a1, d1, hv1⟩ := formSym ho1
  subst hv1
  clear ho1 hg1 hm1 c1 hown hsrc hone cE hszE
  have c2 := chg_one w1 (.cells #[.int .i64 (-9), .int .u8 0, .int .i64 0, .int .i64 0] 33)
  have hsrc := from_sym w1 markY 33
  have hone := symcs_cell [markY]
  have hown : (w1.alloc (.cells #[.int .i64 (-9), .int .u8 0, .int .i64 0, .int .i64 0] 33)).ownsRow w0.heap.size 33 4 (.slice a1 len d1) len (symcs l) := by
    have h9 := SymO.new HS1.out c2
    unfold SymO at h9
    rw [HLN.out] at h9
    exact h9
  have hszE : w0.heap.size ≤ (w1.alloc (.cells #[.int .i64 (-9), .int .u8 0, .int .i64 0, .int .i64 0] 33)).heap.size := by have := HC1.out.size; rw [World.size_alloc]; omega
  go_wp2_with (at_builtin; refine wpList_append_moved rfl _ _ 22 rfl w0.heap.size 33 iy (.agg #[.int .i64 0, .int .u8 0, .int .i64 0, .int .i64 0]) 4 32 Tryd.underlying22 hiy hy0 hy1 hy2 rfl (by decide) _ len (symcs l) rfl (some ⟨w1.heap.size, 0, none⟩) 1 1 rfl (symcs [markY]) hown hsrc hone (by unfold maxLen; omega) (by omega) hszE ?_)
  intro v2 w2 ho2 hg2 hm2
  obtain ⟨a2, d2, hv2⟩ := formSym ho2
  subst hv2
  have c3 : Chg (fun z => (Value.slice a1 len d1).ownBlock = some z) (w1.alloc (.cells #[.int .i64 (-9), .int .u8 0, .int .i64 0, .int .i64 0] 33)) w2 := (Chg.refl _ _).grown hg2 (fun z e => .inl e)
  have HC2 : Hid (Chg (fun _ => False) w0 w2) := (chg_then HC1.out c2).trans c3 (fun z e => .inr (World.ownsRow.lt hown z e).1)
  have HS2 : Hid (SymO w2 w0.heap.size (.slice a2 (len + 1) d2) (l ++ [markY])) := sym_app ho2 (by rw [List.length_append, HLN.out]; rfl)
  have hcap : len + 1 ≤ d2 := by
    rcases ho2.2 with ⟨h9, h8⟩ | ⟨g, cap, cur, h9, _, _, h7, _⟩
    · omega
    · simp only [Value.slice.injEq] at h9; omega
  have hcut : ∀ ww : World, (Instr.sliceAt 22 (.slice a2 (len + 1) d2) none (some (.int .i64 (len : Int))) none).run Tryd.prog ww = .ok (.slice a2 len d2) ww := fun ww => run_cutS a2 (len + 1) d2 len ww (by omega)
  clear ho2 hg2 hm2 c3 c2 hown hsrc hone hszE
  go_wp2
  go_ret2
  exact ⟨_, _, rfl, HS2.out, HC2.out⟩
theorem symNeq (k y l d : Int) (w : World) : (binOp .neq 33 (.agg #[.int .i64 k, .int .u8 y, .int .i64 l, .int .i64 d]) (.agg #[.int .i64 k, .int .u8 y, .int .i64 l, .int .i64 d])).run Tryd.prog w = .ok (.bool false) w := by
  rw [run_neq_struct]
  simp [go_sem]
theorem symEql (k y l d : Int) (w : World) : (binOp .eql 33 (.agg #[.int .i64 k, .int .u8 y, .int .i64 l, .int .i64 d]) (.agg #[.int .i64 k, .int .u8 y, .int .i64 l, .int .i64 d])).run Tryd.prog w = .ok (.bool true) w := by
  rw [run_eql_struct]
  simp [go_sem]
set_option maxHeartbeats 4000000 in
set_option maxRecDepth 100000 in
theorem kept_any (fa ad : Option Addr) (fc c len : Nat) (l : List Sym) (w0 : World) (hL : l.length = len) (hl : SymL w0 ad l) (hf : SymL w0 fa (l ++ [markY])) (hle : len ≤ 1048576) : Calls Tryd.prog 33 #[.slice fa (len + 1) fc, .slice ad len c] w0 fun e w' => e = .returned (.bool true) ∧ Chg (fun _ => False) w0 w' := by
  have HL : Hid (SymL w0 ad l) := hl
  have HF : Hid (SymL w0 fa (l ++ [markY])) := hf
  have HLN : Hid (l.length = len) := hL
  obtain ⟨_, fb, fo, hfa, m0, m1, m2, m3⟩ := hf len markY (by rw [← hL]; simp)
  subst hfa
  have hsn := symNeq
  have hse := symEql
  clear hl hf hL m0 m1 m2 m3
  go_enter Tryd.func33, Tryd.ntmps33
  go_wp2_with fail
  go_loopw [9] (fun v1 wr => ∃ (i : Nat), i ≤ len ∧ v1 = .int .i64 (i : Int) ∧ Hid (Chg (fun _ => False) w0 wr)) (fun v1 _ => len - (intOf v1).toNat)
  case atStart => exact ⟨0, by omega, rfl, Chg.refl _ _⟩
  case round =>
    obtain ⟨i, hi, rfl, HCW⟩ := hrel
    have hii : (i : Int) ≤ (len : Int) := by omega
    have hbi : (len : Int) ≤ 1048576 := by omega
    by_cases hlt : i < len
    · have hd1 : decide ((i : Int) < (len : Int)) = true := by simp; omega
      have hd1' : decide (i < len) = true := decide_eq_true hlt
      obtain ⟨y, hy⟩ : ∃ y, l[i]? = some y := ⟨l[i]'(by have := HLN.out; omega), List.getElem?_eq_getElem _⟩
      obtain ⟨_, lb, lo, had, k0, k1, k2, k3⟩ := HL.out.new HCW.out i y hy
      have cY := chg_one wr (.cells #[.int .i64 y.k, .int .u8 y.y, .int .i64 y.l, .int .i64 y.d] 33)
      obtain ⟨_, fb2, fo2, hfa2, f0, f1, f2, f3⟩ := HF.out.new (chg_then HCW.out cY) i y (by rw [List.getElem?_append_left (by have := HLN.out; omega)]; exact hy)
      obtain ⟨rfl, rfl⟩ : fb = fb2 ∧ fo = fo2 := by simp only [Option.some.injEq, Addr.mk.injEq, and_true] at hfa2; exact hfa2
      have HCY : Hid _ := chg_then HCW.out cY
      obtain ⟨y0, y1, y2, y3⟩ := cells4y (heap_alloc_last wr (.cells #[.int .i64 y.k, .int .u8 y.y, .int .i64 y.l, .int .i64 y.d] 33))
      clear hy hfa2 HCW cY
      subst had
      have hi1 : (i : Int) < (len : Int) + 1 := by omega
      go_wp2_with fail
      generalize wr.alloc (.cells #[.int .i64 y.k, .int .u8 y.y, .int .i64 y.l, .int .i64 y.d] 33) = Wy at *
      clear k0 k1 k2 k3
      go_quiet (fail)
      have HCR : Hid (Chg (fun _ => False) w0 (Wy.drewN nq)) := chg_then HCY.out (chg_drewN _ _)
      clear f0 f1 f2 f3 y0 y1 y2 y3 HCY
      generalize Wy.drewN nq = wq at *
      go_wp2_with fail
      exact ⟨⟨i + 1, by omega, by go_num, HCR.out⟩, by simp [intOf]; omega⟩
    · have hd1 : decide ((i : Int) < (len : Int)) = false := by simp; omega
      have hd1' : decide (i < len) = false := decide_eq_false hlt
      obtain ⟨_, fb2, fo2, hfa2, f0, f1, f2, f3⟩ := HF.out.new HCW.out len markY (by rw [← HLN.out]; simp)
      obtain ⟨rfl, rfl⟩ : fb = fb2 ∧ fo = fo2 := by simp only [Option.some.injEq, Addr.mk.injEq, and_true] at hfa2; exact hfa2
      simp only [markY] at f0 f1 f2 f3
      clear hfa2
      go_wp2
      go_ret
      exact ⟨rfl, HCW.out⟩
end Go.Proofs.YtlnocjicmofjfaaDoor
