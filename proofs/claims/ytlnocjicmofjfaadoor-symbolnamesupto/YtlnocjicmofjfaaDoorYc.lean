/- The same row, its bytes written over in place; of no statement by itself. -/
import Derived.Test.YtlnocjicmofjfaaDoorYb
namespace Go.Proofs.YtlnocjicmofjfaaDoor
open Go.RowKit
open St12 Sy13
set_option linter.unusedVariables false
set_option linter.unusedSimpArgs false

variable {Win : World → Nat → Nat → Value → Nat → List Nat → Prop} {Tab : World → Prop}
theorem symcs_set1 : ∀ (l : List Sym) (i : Nat) (y : Sym) (v : Int), l[i]? = some y → (symcs l).set (i * 4 + 1) (.int .u8 v) = symcs (l.set i ⟨y.k, v, y.l, y.d⟩)
  | [], i, y, v, h => by simp at h
  | z :: l, 0, y, v, h => by
    simp only [List.getElem?_cons_zero, Option.some.injEq] at h
    subst h
    simp [symcs, symc]
  | z :: l, i + 1, y, v, h => by
    rw [List.getElem?_cons_succ] at h
    have ih := symcs_set1 l i y v h
    simp only [symcs, List.flatMap_cons] at ih ⊢
    rw [List.set_cons_succ, List.flatMap_cons, ← ih, show (i + 1) * 4 + 1 = (symc z).length + (i * 4 + 1) by simp [symc]; omega]
    rw [List.set_append_right _ _ (by omega)]
    congr 2
    omega
theorem symo_fb {w : World} {B : Nat} {fa : Option Addr} {fc n : Nat} {l : List Sym} (h : SymO w B (.slice fa n fc) l) (h0 : 0 < l.length) : ∃ fb, fa = some ⟨fb, 0, none⟩ ∧ l.length = n ∧ n ≤ fc := by
  rcases h.2 with ⟨h9, h8⟩ | ⟨g, cap, cur, h9, _, _, h7, _⟩
  · omega
  · simp only [Value.slice.injEq] at h9
    exact ⟨g, h9.1, h9.2.1.symm, by omega⟩
theorem symo_cells {w : World} {B fb n fc : Nat} {l : List Sym} (h : SymO w B (.slice (some ⟨fb, 0, none⟩) n fc) l) (hn : l.length = n) {i : Nat} {y : Sym} (hi : l[i]? = some y) : w.cell? ⟨fb, i * 4, none⟩ = some (.int .i64 y.k) ∧ w.cell? ⟨fb, i * 4 + 1, none⟩ = some (.int .u8 y.y) ∧ w.cell? ⟨fb, i * 4 + 2, none⟩ = some (.int .i64 y.l) ∧ w.cell? ⟨fb, i * 4 + 3, none⟩ = some (.int .i64 y.d) := by
  subst hn
  have hlt := (List.getElem?_eq_some_iff.1 hi).1
  have hce : ∀ j, j < 4 → w.cell? ⟨fb, i * 4 + j, none⟩ = (symc y)[j]? := fun j hj => by
    rw [World.ownsRow.cellAt h (i * 4 + j) (by omega), symcs_at l i y hi j hj]
  exact ⟨hce 0 (by omega), hce 1 (by omega), hce 2 (by omega), hce 3 (by omega)⟩
theorem symo_put1 {w : World} {B fb n fc : Nat} {l : List Sym} (h : SymO w B (.slice (some ⟨fb, 0, none⟩) n fc) l) (hn : l.length = n) {i : Nat} {y : Sym} (hi : l[i]? = some y) (v : Int) : SymO (w.setCell ⟨fb, i * 4 + 1, none⟩ (.int .u8 v)) B (.slice (some ⟨fb, 0, none⟩) n fc) (l.set i ⟨y.k, v, y.l, y.d⟩) := by
  subst hn
  have h9 := (World.ownsRow.stored h (i * 4 + 1) (.int .u8 v)).1
  rw [symcs_set1 l i y v hi] at h9
  unfold SymO
  rw [List.length_set]
  exact h9
theorem set_I {l : List Sym} (h : ∀ y ∈ l, y.I) {i : Nat} {z : Sym} (hz : z.I) : ∀ y ∈ l.set i z, y.I := fun y hy => by
  rcases List.mem_or_eq_of_mem_set hy with e | e
  · exact h y e
  · rw [e]; exact hz
set_option maxHeartbeats 8000000 in
set_option maxRecDepth 100000 in
theorem anew_any (Y : SymSpec Win Tab) (dict : Int) (hd : I64 dict) (fb fc len : Nat) (l : List Sym) (m : Sym) (w00 w0 : World) (B : Nat) (hT0 : Tab w00) (hT : Tab w0) (hB0 : w00.heap.size ≤ B) (hB : B ≤ w0.heap.size) (hL : l.length = len) (hf : SymO w0 B (.slice (some ⟨fb, 0, none⟩) (len + 1) fc) (l ++ [m])) (hI : ∀ y ∈ l, y.I) (hle : len ≤ 1048576) : Calls Tryd.prog 34 #[.int .i64 dict, .slice (some ⟨fb, 0, none⟩) len fc] w0 fun e w' => e = .returned (.bool true) ∧ Chg (fun z => z = fb) w0 w' := by
  obtain ⟨iy, hiy, hy0, hy1, hy2⟩ := info_parts infoSym
  have HF0 : Hid (SymO w0 B (.slice (some ⟨fb, 0, none⟩) (len + 1) fc) (l ++ [m])) := hf
  have HI0 : Hid (∀ y ∈ l, y.I) := hI
  have HLN : Hid (l.length = len) := hL
  have HFB : Hid (B ≤ fb ∧ w00.heap.size ≤ B ∧ B ≤ w0.heap.size) := ⟨(hf.lt rfl).1, hB0, hB⟩
  have HT : Hid (∀ wx, Chg (fun z => z = fb) w0 wx → Tab wx) := fun wx hc => Y.keep hT0 hT hc (fun z e => by have := HFB.out; omega)
  have hcap : len + 1 ≤ fc := by obtain ⟨_, _, _, h9⟩ := symo_fb hf (by simp); exact h9
  clear hf hI hL hT hT0 hB0 hB
  go_enter Tryd.func34, Tryd.ntmps34
  go_wp2_with fail
  go_loopw [14] (fun v1 wr => ∃ (i : Nat) (l2 : List Sym), i ≤ len ∧ v1 = .int .i64 (i : Int) ∧ Hid (l2.length = len ∧ (∀ y ∈ l2, y.I) ∧ SymO wr B (.slice (some ⟨fb, 0, none⟩) (len + 1) fc) (l2 ++ [m]) ∧ Chg (fun z => z = fb) w0 wr)) (fun v1 _ => len - (intOf v1).toNat)
  case atStart => exact ⟨0, l, by omega, rfl, HLN.out, HI0.out, HF0.out, Chg.refl _ _⟩
  case round =>
    clear HF0 HI0
    obtain ⟨i, l2, hi, rfl, HI⟩ := hrel
    have hii : (i : Int) ≤ (len : Int) := by omega
    have hbi : (len : Int) ≤ 1048576 := by omega
    have HL2 : Hid (l2.length = len) := HI.out.1
    have HLI : Hid (∀ y ∈ l2, y.I) := HI.out.2.1
    have HFW : Hid (SymO wr B (.slice (some ⟨fb, 0, none⟩) (len + 1) fc) (l2 ++ [m])) := HI.out.2.2.1
    have HCW : Hid (Chg (fun z => z = fb) w0 wr) := HI.out.2.2.2
    clear HI
    by_cases hlt : i < len
    · have hd1 : decide ((i : Int) < (len : Int)) = true := by simp; omega
      have hd1' : decide (i < len) = true := decide_eq_true hlt
      obtain ⟨y, hy⟩ : ∃ y, l2[i]? = some y := ⟨l2[i]'(by have := HL2.out; omega), List.getElem?_eq_getElem _⟩
      have hy2' : (l2 ++ [m])[i]? = some y := by rw [List.getElem?_append_left (by have := HL2.out; omega)]; exact hy
      have hlen2 : (l2 ++ [m]).length = len + 1 := by rw [List.length_append, HL2.out]; rfl
      obtain ⟨k0, k1, k2, k3⟩ := symo_cells HFW.out hlen2 hy2'
      have kf := World.ownsRow.frozenAt (show wr.ownsRow B 33 4 (.slice (some ⟨fb, 0, none⟩) (len + 1) fc) (len + 1) (symcs (l2 ++ [m])) by have h9 := HFW.out; unfold SymO at h9; rw [hlen2] at h9; exact h9) (i * 4 + 1)
      have HYI : Hid y.I := HLI.out y (List.mem_of_getElem? hy)
      have HPU : Hid (∀ v : Int, SymO (wr.setCell ⟨fb, i * 4 + 1, none⟩ (.int .u8 v)) B (.slice (some ⟨fb, 0, none⟩) (len + 1) fc) (l2.set i ⟨y.k, v, y.l, y.d⟩ ++ [m])) := fun v => by
        have h9 := symo_put1 HFW.out hlen2 hy2' v
        rw [List.set_append_left _ _ (by have := HL2.out; omega)] at h9
        exact h9
      have HCP : Hid (∀ v : Int, Chg (fun z => z = fb) w0 (wr.setCell ⟨fb, i * 4 + 1, none⟩ (.int .u8 v))) := fun v => HCW.out.trans ((Chg.refl (fun z => z = fb) wr).setCell (p := ⟨fb, i * 4 + 1, none⟩) (.inl rfl) _) (fun z e => .inl e)
      have hyy := HYI.out.y
      have hyy0 := hyy.1
      have hyy1 := hyy.2
      clear hy hy2' hlen2 hyy HFW HCW
      go_wp2_with fail
      refine ⟨⟨i + 1, l2.set i ⟨y.k, _, y.l, y.d⟩, by omega, by go_num, (by rw [List.length_set]; exact HL2.out), set_I HLI.out (symI y.k _ y.l y.d HYI.out.k HYI.out.l HYI.out.d ?_), HPU.out _, HCP.out _⟩, by simp [intOf]; omega⟩
      omega
    · have hd1 : decide ((i : Int) < (len : Int)) = false := by simp; omega
      have hd1' : decide (i < len) = false := decide_eq_false hlt
      have hlen2 : (l2 ++ [m]).length = len + 1 := by rw [List.length_append, HL2.out]; rfl
      have HSL : Hid (SymL wr (some ⟨fb, 0, none⟩) l2) := fun j y hj => by
        have hj2 : (l2 ++ [m])[j]? = some y := by rw [List.getElem?_append_left (List.getElem?_eq_some_iff.1 hj).1]; exact hj
        obtain ⟨k0, k1, k2, k3⟩ := symo_cells HFW.out hlen2 hj2
        refine ⟨HLI.out y (List.mem_of_getElem? hj), fb, 0, rfl, ?_⟩
        rw [Nat.zero_add]
        exact ⟨k0, k1, k2, k3⟩
      obtain ⟨xs, cn, er, hex⟩ : ∃ xs cn er, expandA dict l2 = (xs, cn, er) := ⟨_, _, _, rfl⟩
      have HEX : Hid (Calls Tryd.prog 14 #[.int .i64 dict, .slice (some ⟨fb, 0, none⟩) len fc] wr fun e w' => ∃ ov, e = .returned (.tuple #[ov, .int .i64 (cn : Int), .int .i64 er]) ∧ w'.ownsRow wr.heap.size 5 1 ov xs.length (ins .u8 (nums xs)) ∧ Chg (fun _ => False) wr w') := by
        have h9 := Y.expand dict (some ⟨fb, 0, none⟩) fc l2 wr (HT.out _ HCW.out) hd HSL.out (by have := HL2.out; omega) (by have := HL2.out; omega)
        rw [hex, HL2.out] at h9
        exact h9
      have HRE : Hid (∀ wx ax cx, SymL wx ax l2 → Calls Tryd.prog 32 #[.int .i64 dict, .slice ax len cx] wx fun e w' => ∃ ov, e = .returned (.tuple #[ov, .int .i64 (cn : Int), .int .i64 er]) ∧ w'.ownsRow wx.heap.size 5 1 ov xs.length (ins .u8 (nums xs)) ∧ Chg (fun _ => False) wx w') := fun wx ax cx h => by
        have h9 := rexpand_any dict ax cx len l2 wx HL2.out hd h (by omega)
        rw [hex] at h9
        exact h9
      clear hex hlen2
      go_wp2_with fail
      refine Calls.mono HEX.out ?_
      rintro z w1 ⟨ov, rfl, ho, c1⟩
      obtain ⟨q, hq⟩ : ∃ q, xs.length = q := ⟨_, rfl⟩
      rw [hq] at ho HRE
      obtain ⟨oa, oc, hov⟩ := form1 ho
      subst hov
      have HO1 : Hid (w1.ownsRow wr.heap.size 5 1 (.slice oa q oc) q (ins .u8 (nums xs))) := ho
      have HC1 : Hid (Chg (fun _ => False) wr w1) := c1
      have cE := chg_one w1 (.cells #[] 33)
      have hown := own_emptyS w1
      have hsrc : From (w1.alloc (.cells #[] 33)) (some ⟨fb, 0, none⟩) len fc 4 (symcs l2) := from_symL (HSL.out.new (chg_then c1 cE)) HL2.out (fun e => by cases e)
      have hone := symcs_cell l2
      have hszE : w1.heap.size ≤ (w1.alloc (.cells #[] 33)).heap.size := by rw [World.size_alloc]; omega
      clear ho c1 hq HEX
      go_wp2_with (at_builtin; refine wpList_append_moved rfl _ _ 22 rfl w1.heap.size 33 iy (.agg #[.int .i64 0, .int .u8 0, .int .i64 0, .int .i64 0]) 4 32 Tryd.underlying22 hiy hy0 hy1 hy2 rfl (by decide) _ 0 (symcs []) rfl (some ⟨fb, 0, none⟩) len fc rfl (symcs l2) hown hsrc hone (by unfold maxLen; omega) (by omega) hszE ?_)
      intro v2 w2 ho2 hg2 hm2
      have c2 : Chg (fun z => (Value.slice (some ⟨w1.heap.size, 0, none⟩) 0 0).ownBlock = some z) (w1.alloc (.cells #[] 33)) w2 := (Chg.refl _ _).grown hg2 (fun z e => .inl e)
      have HC2 : Hid (Chg (fun _ => False) w1 w2) := cE.trans c2 (fun z e => .inr (World.ownsRow.lt hown z e).1)
      have HS2 : Hid (SymO w2 w1.heap.size v2 l2) := sym_app (a := []) ho2 (by rw [List.nil_append, HL2.out])
      obtain ⟨a2, d2, hv2⟩ := formSym ho2
      subst hv2
      clear ho2 hg2 hm2 c2 hown hsrc hone cE hszE
      obtain ⟨a3, d3, hv3, hsl2, _⟩ := SymO.list HS2.out HLI.out
      simp only [Value.slice.injEq] at hv3
      rw [← hv3.1] at hsl2
      have HSL2 : Hid (SymL w2 a2 l2) := hsl2
      clear hv3 hsl2
      go_wp2_with fail
      refine (HRE.out _ _ _ HSL2.out).mono ?_
      rintro z w3 ⟨ov, rfl, ho, c3⟩
      obtain ⟨pa, pc, hov⟩ := form1 ho
      subst hov
      have hc1 := conv_own ho
      have hc2 := conv_own (ownsRow_keep HO1.out (chg_then HC2.out c3) (fun _ _ f => f))
      have HC3 : Hid (Chg (fun z => z = fb) w0 w3) := HCW.out.trans (chg_then HC1.out (chg_then HC2.out c3)) (fun _ f => f.elim)
      clear ho c3
      go_wp2
      go_ret
      exact ⟨rfl, HC3.out⟩
end Go.Proofs.YtlnocjicmofjfaaDoor
