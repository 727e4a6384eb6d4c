/- FinderExact, above what is asked of the program's finders; of no statement by itself. -/
import Derived.Test.YtkdionoelbiidaaFi
import Derived.Test.YtkdionoelbiidaaFj
namespace Go.Proofs.Ytkdionoelbiidaa
open Go.RowKit
set_option linter.unusedVariables false
variable {Γ : Type} {le : Γ → Γ → Prop} {foot : Γ → Nat → Prop} {mp : Γ → Nat} {Fin : Γ → World → Nat → Nat → List Nat → Nat → Nat → Prop} {Sq : World → Value → (Nat → Prop) → Nat → Int → Prop}

/-- A script in memory. -/
def StL (w : World) (a : Option Addr) (l : List (Int × Int × Int)) : Prop := ∀ (k : Nat) (s : Int × Int × Int), l[k]? = some s → (I64 s.1 ∧ I64 s.2.1 ∧ I64 s.2.2) ∧ ∃ b off, a = some ⟨b, off, none⟩ ∧ w.cell? ⟨b, off + k * 3, none⟩ = some (.int .i64 s.1) ∧ w.cell? ⟨b, off + k * 3 + 1, none⟩ = some (.int .i64 s.2.1) ∧ w.cell? ⟨b, off + k * 3 + 2, none⟩ = some (.int .i64 s.2.2)
theorem StL.new {w w' : World} {a : Option Addr} {l : List (Int × Int × Int)} (h : StL w a l) (hc : Chg (fun _ => False) w w') : StL w' a l := fun k s hk => by
  obtain ⟨hI, b, off, e, h0, h1, h2⟩ := h k s hk
  exact ⟨hI, b, off, e, cell_chg h0 hc, cell_chg h1 hc, cell_chg h2 hc⟩
theorem pR_ne (x : Addr) (w : World) : (binOp .eql 46 (.pointer (some x)) (.pointer none)).run Try.prog w = .ok (.bool false) w := by kernel_rfl
theorem pR_nil (w : World) : (binOp .eql 46 (.pointer none) (.pointer none)).run Try.prog w = .ok (.bool true) w := by kernel_rfl
/-- The program's finder and the document's. -/
structure Ex (Fin : Γ → World → Nat → Nat → List Nat → Nat → Nat → Prop) (foot : Γ → Nat → Prop) (w0 w : World) (γ : Γ) (a r : Nat) (ad : Option Addr) (L c : Nat) (d : List Nat) (n p : Nat) : Prop where
  one : One Fin w0 w γ a d n p
  rf : Rf w r ad L c d n p
  ap : ∀ z, foot γ z → z ≠ r
  r0 : w0.heap.size ≤ r
theorem Ex.new (S : FinSpec le foot mp Fin Sq) {w0 w w' : World} {γ : Γ} {a r : Nat} {ad : Option Addr} {L c : Nat} {d : List Nat} {n p : Nat} (h : Ex Fin foot w0 w γ a r ad L c d n p) (hc : Chg (fun _ => False) w w') : Ex Fin foot w0 w' γ a r ad L c d n p := ⟨h.one.new S hc, h.rf.new hc, h.ap, h.r0⟩
theorem own_one8 {w : World} {B g nb lc : Nat} {bs : List Nat} {q : Int} (hl : bs.length = nb) (h : w.ownsRow B 5 1 (.slice (some ⟨g, 0, none⟩) (nb + 1) lc) (nb + 1) (ins .u8 (nums bs) ++ [.int .u8 q])) : Row8 w (some ⟨g, 0, none⟩) nb lc (nums bs) ∧ w.cell? ⟨g, nb, none⟩ = some (.int .u8 q) ∧ nb + 1 ≤ lc := by
  have hil : (ins .u8 (nums bs)).length = nb := by simp [ins, nums, hl]
  refine ⟨⟨by rw [nums_len]; exact hl, .inr ⟨_, rfl, fun j x hx => ?_⟩⟩, ?_, own_cap h⟩
  · refine h.cells (g := g) rfl j x ?_
    have hj : j < (ins .u8 (nums bs)).length := (List.getElem?_eq_some_iff.1 hx).1
    rw [List.getElem?_append_left hj]
    exact hx
  · have := h.cells (g := g) rfl nb (.int .u8 q) (by rw [List.getElem?_append_right (by omega), hil]; simp)
    rwa [add_at] at this

theorem one8n (xs : List Nat) : ∀ u ∈ (nums xs).map (Value.int .u8), u.oneCell' = true := fun u hu => by
  obtain ⟨x, _, rfl⟩ := List.mem_map.1 hu
  rfl
theorem ownsRow_succ1 {W : World} {base : Nat} {e : TypeId} {v : Value} {k : Nat} {xs : List Value} (h : W.ownsRow base e 1 v (k + 1) xs) : ∃ g cap, v = .slice (some ⟨g, 0, none⟩) (k + 1) cap := ownsRow_succ h
set_option maxHeartbeats 8000000 in
set_option maxRecDepth 100000 in
theorem exact_out (S : FinSpec le foot mp Fin Sq) (ad : Option Addr) (L c : Nat) (d : List Nat) (dict : Int) (sa : Option Addr) (Z sc : Nat) (w0 : World) (hr : Row8 w0 ad L c (nums d)) (hL : L ≤ 140737488351232) (hout : dict < 1 ∨ 4294967295 < dict) : Calls Try.prog 7 #[.slice ad L c, .int .i64 dict, .slice sa Z sc] w0 fun e w' => e = .returned (.bool true) ∧ Chg (fun _ => False) w0 w' := by
  obtain ⟨iu, hiu, hu0, hu1, hu2⟩ := info_parts infoU8
  have HR : Hid (Row8 w0 ad L c (nums d)) := hr
  have hdl : d.length = L := by have := hr.1; rw [nums_len] at this; exact this
  have HDL : Hid (d.length = L) := hdl
  have hne := pF_ne
  have hnl := pF_nil
  have hrne := pR_ne
  have hrnl := pR_nil
  have hfn := func_nil
  clear hr hdl
  have cE := chg_one w0 (.cells #[] 5)
  have hoE := own_empty w0 5
  have hsrc := (Bk.row8_chg HR.out cE).src
  have hone := one8n d
  have hszE : w0.heap.size ≤ (w0.alloc (.cells #[] 5)).heap.size := cE.size
  have HCE : Hid (Chg (fun _ => False) w0 (w0.alloc (.cells #[] 5))) := cE
  clear cE
  go_enter Try.func7, Try.ntmps7
  go_wp2_with (at_builtin; refine wpList_append_moved rfl _ _ 22 rfl w0.heap.size 5 iu (.int .u8 0) 1 1 Try.underlying22 hiu hu0 hu1 hu2 rfl (by decide) _ 0 [] rfl ad L c rfl ((nums d).map (Value.int .u8)) hoE hsrc hone (by unfold maxLen; omega) (by omega) hszE ?_)
  intro vq wq hoq hgq _
  have cq : Chg (fun _ => False) w0 wq := HCE.out.grown hgq (fun k e => .inr (by cases e; exact Nat.le_refl _))
  have hoq' : wq.ownsRow w0.heap.size 5 1 vq L (ins .u8 (nums d)) := by simpa [ins_map] using hoq
  obtain ⟨aq, dq, hvq⟩ := form1 hoq'
  subst hvq
  have cB := chg_one wq (.cells #[.int .u8 49] 5)
  have hsr2 : From (wq.alloc (.cells #[.int .u8 49] 5)) (some ⟨wq.heap.size, 0, none⟩) 1 1 1 [.int .u8 49] := (Bk.row8_one wq 49 5).src
  have ho3 := ownsRow_keep hoq' cB (fun _ _ f => f)
  have hs3 : w0.heap.size ≤ (wq.alloc (.cells #[.int .u8 49] 5)).heap.size := Nat.le_trans cq.size cB.size
  have HCq : Hid (Chg (fun _ => False) w0 (wq.alloc (.cells #[.int .u8 49] 5))) := chg_then cq cB
  clear hoq hgq cq hoq' hoE hsrc hone hszE HCE cB
  go_wp2_with (at_builtin; refine wpList_append_moved rfl _ _ 22 rfl w0.heap.size 5 iu (.int .u8 0) 1 1 Try.underlying22 hiu hu0 hu1 hu2 rfl (by decide) _ L (ins .u8 (nums d)) rfl (some ⟨wq.heap.size, 0, none⟩) 1 1 rfl [.int .u8 49] ho3 hsr2 (fun u hu => by simp at hu; subst hu; rfl) (by unfold maxLen; omega) (by omega) hs3 ?_)
  intro vf wf ho4 hg4 _
  have cf : Chg (fun _ => False) w0 wf := HCq.out.grown hg4 (fun k e => .inr (ho3.lt k e).1)
  obtain ⟨g, fc, rfl⟩ := ownsRow_succ1 ho4
  obtain ⟨hr4, hx4, hfc⟩ := own_one8 HDL.out ho4
  have hlt4 := ho4.lt g rfl
  have hfci : (L : Int) ≤ (fc : Int) := by omega
  have hfcn : L ≤ fc := by omega
  have HOW : Hid (wf.ownsRow w0.heap.size 5 1 (.slice (some ⟨g, 0, none⟩) (L + 1) fc) (L + 1) (ins .u8 (nums d) ++ [.int .u8 49])) := ho4
  have HCf : Hid (Chg (fun _ => False) w0 wf) := cf
  have HGf : Hid (w0.heap.size ≤ g ∧ g < wf.heap.size) := hlt4
  clear ho3 hsr2 hs3 ho4 hg4 HCq cf hlt4
  have HN : Hid _ := S.newOut (some ⟨g, 0, none⟩) L fc dict wf hout
  go_wp2_with fail
  refine Calls.mono HN.out ?_
  rintro z w1 ⟨rfl, c1⟩
  have HC1 : Hid (Chg (fun _ => False) w0 w1) := chg_then HCf.out c1
  have hr1 := Bk.row8_chg hr4 c1
  have hx1 := cell_chg hx4 c1
  clear HN c1 HOW HCf hr4 hx4
  go_wp2_with fail
  refine (rfnew_out ad L c dict w1 hout).mono ?_
  rintro z w2 ⟨rfl, rfl⟩
  have cv1 : ∀ k, (convert 22 9 (.slice (some ⟨g, 0, none⟩) L fc)).run Try.prog (w1.drewN k) = .ok (.string (strOfNums (nums d))) (w1.drewN k) := fun k => Bk.conv8_here (Bk.row8_chg hr1 (chg_drewN _ _))
  have cv2 : ∀ k, (convert 22 9 (.slice ad L c)).run Try.prog (w1.drewN k) = .ok (.string (strOfNums (nums d))) (w1.drewN k) := fun k => Bk.conv8_here (Bk.row8_chg HR.out (chg_then HC1.out (chg_drewN _ _)))
  have HNUM : Hid (∀ q x, Calls Try.prog 9 #[.int .i64 x] (w1.drewN q) fun e w'' => e = .returned (.int .i64 x) ∧ ∃ m, w'' = w1.drewN m) := fun q x => (num_any x (w1.drewN q)).mono fun e w' ⟨h1, h2⟩ => ⟨h1, q, h2.symm⟩
  go_wp2_with fail
  go_quiet (first | (go_at_call 9; exact HNUM.out _ _))
  have HC2 : Hid (Chg (fun _ => False) w0 (w1.drewN nq)) := chg_then HC1.out (chg_drewN _ _)
  clear HC1 hr1 hx1 cv1 cv2 HNUM
  generalize w1.drewN nq = w2 at *
  go_wp2_with fail
  refine (known_any S w2).mono ?_
  rintro z w9 ⟨rfl, c9⟩
  have HC9 : Hid (Chg (fun _ => False) w0 w9) := chg_then HC2.out c9
  clear c9
  go_wp2
  go_ret
  exact ⟨rfl, HC9.out⟩
end Go.Proofs.Ytkdionoelbiidaa
