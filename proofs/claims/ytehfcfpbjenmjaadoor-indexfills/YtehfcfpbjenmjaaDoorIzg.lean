/- The landed index's reader of fields: the next bytes, the mark, a number; of no statement by itself. -/
import Derived.Test.YtehfcfpbjenmjaaDoorIza
import Derived.Test.YtehfcfpbjenmjaaDoorIxk
namespace Go.Proofs.YtehfcfpbjenmjaaDoor
open Go.RowKit
set_option linter.unusedVariables false
set_option linter.unusedSimpArgs false
/-- What a step gives up with. -/
def gaveX (e : Int) : List PanicEntry := [{ v := .iface 24 (.int .i64 e), recovered := false }]
/-- A reader of fields at block f: what it reads, how far it is. -/
def Fld (w : World) (f : Nat) (ad : Option Addr) (n c at_ : Nat) : Prop := w.heap[f]? = some (.cells #[.slice ad n c, .int .i64 (at_ : Int)] 67 (0, 0))
theorem Fld.keep {w w' : World} {f n c at_ : Nat} {ad : Option Addr} {S : Nat → Prop} (h : Fld w f ad n c at_) (hc : Chg S w w') (hS : ¬ S f) : Fld w' f ad n c at_ := blk_keep h hc hS
theorem Fld.x {w : World} {f n c at_ : Nat} {ad : Option Addr} (h : Fld w f ad n c at_) : w.cell? ⟨f, 0, none⟩ = some (.slice ad n c) ∧ w.cell? ⟨f, 1, none⟩ = some (.int .i64 (at_ : Int)) ∧ w.frozen? ⟨f, 1, none⟩ = false := by
  unfold Fld at h
  exact ⟨by simp [World.cell?, h], by simp [World.cell?, h], by simp [World.frozen?, h]⟩
theorem Fld.set {w : World} {f n c at_ : Nat} {ad : Option Addr} (h : Fld w f ad n c at_) (k : Nat) : Fld (w.setCell ⟨f, 1, none⟩ (.int .i64 (k : Int))) f ad n c k := Vint.blk_setk (l := [.slice ad n c, .int .i64 (at_ : Int)]) h 1 _
set_option maxHeartbeats 4000000 in
set_option maxRecDepth 100000 in
theorem next_ok (f : Nat) (ad : Option Addr) (n c at_ k : Nat) (w0 : World) (h : Fld w0 f ad n c at_) (hk : at_ + k ≤ n) (hc : n ≤ c) (hn : n ≤ 140737488355328) : Calls Tryd.prog 52 #[.pointer (some ⟨f, 0, none⟩), .int .i64 (k : Int)] w0 fun e w' => e = .returned (.slice (cutZ ad c at_ 1) k (c - at_)) ∧ Fld w' f ad n c (at_ + k) ∧ Chg (fun z => z = f) w0 w' := by
  obtain ⟨A, hA⟩ : ∃ A, at_ + k = A := ⟨_, rfl⟩
  have i0 : (at_ : Int) + (k : Int) = (A : Int) := by omega
  have i1 : (A : Int) - (k : Int) = (at_ : Int) := by omega
  have d1 : decide ((n : Int) - (at_ : Int) < (k : Int)) = false := decide_eq_false (by omega)
  have hni : (n : Int) ≤ 140737488355328 := by omega
  have hAn : (A : Int) ≤ (n : Int) := by omega
  have hcut : ∀ ww, (Instr.sliceAt 22 (.slice ad n c) (some (.int .i64 (at_ : Int))) (some (.int .i64 (A : Int))) none).run Tryd.prog ww = .ok (.slice (cutZ ad c at_ 1) k (c - at_)) ww := fun ww => by
    have h9 := run_cutZ_lh ad n c at_ A ww (by omega) (by omega)
    rw [show A - at_ = k by omega] at h9
    exact h9
  obtain ⟨x0, x1, f1⟩ := h.x
  have HF : Hid (Fld w0 f ad n c at_) := h
  rw [hA]
  clear h hA hk hc hn
  go_enter Tryd.func52, Tryd.ntmps52
  go_upto_region 1 with fail
  go_quiet (fail)
  have H1 : Hid (Fld (w0.drewN nq) f ad n c at_ ∧ Chg (fun z => z = f) w0 (w0.drewN nq)) := ⟨HF.out.keep (chg_drewN _ _) (fun f => f), Vint.chg_drewN _ _⟩
  generalize w0.drewN nq = w1 at *
  obtain ⟨x0, x1, f1⟩ := H1.out.1.x
  have H2 : Hid (Fld (w1.setCell ⟨f, 1, none⟩ (.int .i64 (A : Int))) f ad n c A ∧ Chg (fun z => z = f) w0 (w1.setCell ⟨f, 1, none⟩ (.int .i64 (A : Int)))) := ⟨H1.out.1.set A, H1.out.2.setCell (p := ⟨f, 1, none⟩) (.inl rfl) _⟩
  go_upto_region 4 with fail
  clear x0 x1 f1 H1 d1
  generalize w1.setCell ⟨f, 1, none⟩ (.int .i64 (A : Int)) = w2 at *
  obtain ⟨x0, x1, f1⟩ := H2.out.1.x
  go_quiet (fail)
  go_wp2
  go_ret
  exact ⟨rfl, H2.out.1.keep (chg_drewN _ _) (fun f => f), Vint.chg_then H2.out.2 (chg_drewN _ _)⟩
set_option maxHeartbeats 4000000 in
set_option maxRecDepth 100000 in
theorem next_no (f : Nat) (ad : Option Addr) (n c at_ k : Nat) (w0 : World) (h : Fld w0 f ad n c at_) (ha : at_ ≤ n) (hk : n < at_ + k) (hki : (k : Int) ≤ 9223372036854775807) (hn : n ≤ 140737488355328) : Calls Tryd.prog 52 #[.pointer (some ⟨f, 0, none⟩), .int .i64 (k : Int)] w0 fun e w' => e = .panicked (gaveX 1) ∧ Chg (fun _ => False) w0 w' := by
  have d1 : decide ((n : Int) - (at_ : Int) < (k : Int)) = true := decide_eq_true (by omega)
  have hni : (n : Int) ≤ 140737488355328 := by omega
  have hai : (at_ : Int) ≤ (n : Int) := by omega
  obtain ⟨x0, x1, f1⟩ := h.x
  clear h ha hk hn
  go_enter Tryd.func52, Tryd.ntmps52
  go_upto_region 1 with fail
  go_quiet (fail)
  go_wp2
  exact ⟨rfl, rfl, chg_drewN _ _⟩
theorem dig_atX {bs : List Nat} (h : Rc.Dig bs) (k : Nat) : bs.getD k 0 < 256 := by
  rw [List.getD_eq_getElem?_getD]
  cases e : bs[k]? with
  | none => simp
  | some x => exact h x (List.mem_of_getElem? e)
/-- What the mark's fault is. -/
def markE (bs : List Nat) : Int := if bs.length = 0 then 1 else if bs.getD 0 0 ≠ 0 then 2 else 0
set_option maxHeartbeats 4000000 in
set_option maxRecDepth 100000 in
theorem mark23_any (f : Nat) (ad : Option Addr) (n c : Nat) (bs : List Nat) (w0 : World) (h : Fld w0 f ad n c 0) (hr : Row8 w0 ad n c (nums bs)) (hd : Rc.Dig bs) (hc : n ≤ c) (hn : n ≤ 140737488355328) (ho : ∀ g o, 0 < n → ad = some ⟨g, o, none⟩ → g ≠ f) : Calls Tryd.prog 27 #[.pointer (some ⟨f, 0, none⟩)] w0 fun e w' => ((markE bs ≠ 0 ∧ e = .panicked (gaveX (markE bs))) ∨ (markE bs = 0 ∧ e = .returned (.tuple #[]) ∧ Fld w' f ad n c 1)) ∧ Chg (fun z => z = f) w0 w' := by
  have hbl : bs.length = n := by have h9 := hr.1; rw [nums_len] at h9; exact h9
  unfold markE
  by_cases hn0 : n = 0
  · rw [if_pos (by omega)]
    have HN : Hid _ := next_no f ad n c 0 1 w0 h (by omega) (by omega) (by decide) hn
    clear h hr hd hc hn ho hbl hn0
    go_enter Tryd.func27, Tryd.ntmps27
    go_wp2_with fail
    refine Calls.mono HN.out ?_
    rintro z w1 ⟨rfl, c1⟩
    exact ⟨rfl, .inl ⟨by decide, rfl⟩, c1.mono (fun _ f => f.elim)⟩
  · rw [if_neg (by omega)]
    have HN := next_ok f ad n c 0 1 w0 h (by omega) hc hn
    obtain ⟨bb, off, rfl, hcs⟩ := row8_at hr (by omega)
    have x0 := hcs 0 (by omega)
    rw [Nat.add_zero] at x0
    obtain ⟨B0, hB0⟩ : ∃ z, bs.getD 0 0 = z := ⟨_, rfl⟩
    have hb256 := dig_atX hd 0
    rw [hB0] at x0 hb256 ⊢
    have hbf := ho bb off (by omega) rfl
    have hcz : cutZ (some ⟨bb, off, none⟩) c 0 1 = some ⟨bb, off, none⟩ := by
      unfold cutZ
      rw [if_neg (by omega)]
      simp [Addr.add]
    rw [hcz] at HN
    have HN : Hid _ := HN
    have HX : Hid (∀ w', Chg (fun z => z = f) w0 w' → w'.cell? ⟨bb, off, none⟩ = some (.int .u8 (B0 : Int))) := fun w' hc => by
      have hlt := World.block_lt_of_cell? w0 _ x0
      rw [World.cell?_of_block (w := w0) (hc.block _ hlt (by show ¬ bb = f; exact hbf))]
      exact x0
    have hbi : (B0 : Int) ≤ 255 := by omega
    clear h hr hd hc hn ho hbl hn0 hcs hcz hB0 hbf x0 hb256
    by_cases hb : B0 = 0
    · subst hb
      rw [if_neg (by decide)]
      go_enter Tryd.func27, Tryd.ntmps27
      go_wp2_with fail
      refine Calls.mono HN.out ?_
      rintro z w1 ⟨rfl, h1, c1⟩
      have x0 := HX.out w1 c1
      have H1 : Hid (Fld w1 f (some ⟨bb, off, none⟩) n c (0 + 1) ∧ Chg (fun z => z = f) w0 w1) := ⟨h1, c1⟩
      clear h1 c1 HX HN
      go_wp2
      go_end0
      first | exact ⟨.inr ⟨rfl, rfl, H1.out.1⟩, H1.out.2⟩ | exact ⟨.inr ⟨trivial, rfl, H1.out.1⟩, H1.out.2⟩ | exact ⟨⟨rfl, H1.out.1⟩, H1.out.2⟩ | exact ⟨H1.out.1, H1.out.2⟩
    · have y1 : ((B0 : Int) != 0) = true := by simpa using hb
      have y2 : ((B0 : Int) == 0) = false := by simpa using hb
      rw [if_pos hb]
      clear hb
      go_enter Tryd.func27, Tryd.ntmps27
      go_wp2_with fail
      refine Calls.mono HN.out ?_
      rintro z w1 ⟨rfl, h1, c1⟩
      have x0 := HX.out w1 c1
      have H1 : Hid (Chg (fun z => z = f) w0 w1) := c1
      clear h1 c1 HX HN
      go_wp2
      exact ⟨rfl, .inl ⟨by decide, rfl⟩, H1.out⟩
theorem ivget_any (ad : Option Addr) (n c : Nat) (bs : List Nat) (w : World) (h : Row8 w ad n c (nums bs)) (hd : Rc.Dig bs) (hc : n ≤ c) (hn : n ≤ 140737488355328) : Calls Tryd.prog 66 #[.slice ad n c] w fun e w' => e = .returned (.tuple #[.int .u64 ((getN bs).1 : Int), .int .i64 ((getN bs).2.1 : Int), .int .i64 (getN bs).2.2]) ∧ w = w' := by
  refine Calls.mono (Vint.get_any ad n c (nums bs) w h (dig_b8 hd) hc hn) ?_
  rintro e w' ⟨v, k, er, rfl, hg, hw⟩
  obtain ⟨rfl, rfl, rfl⟩ := getN_of hg
  exact ⟨rfl, hw⟩
set_option maxHeartbeats 4000000 in
set_option maxRecDepth 100000 in
theorem number_any (f : Nat) (ad : Option Addr) (n c at_ : Nat) (bs : List Nat) (w0 : World) (h : Fld w0 f ad n c at_) (ha : at_ ≤ n) (hr : Row8 w0 ad n c (nums bs)) (hd : Rc.Dig bs) (hc : n ≤ c) (hn : n ≤ 140737488355328) : Calls Tryd.prog 53 #[.pointer (some ⟨f, 0, none⟩)] w0 fun e w' => (((getN (bs.drop at_)).2.2 ≠ 0 ∧ e = .panicked (gaveX (getN (bs.drop at_)).2.2)) ∨ ((getN (bs.drop at_)).2.2 = 0 ∧ e = .returned (.int .i64 ((getN (bs.drop at_)).1 : Int)) ∧ Fld w' f ad n c (at_ + (getN (bs.drop at_)).2.1))) ∧ Chg (fun z => z = f) w0 w' := by
  have hpos := getN_pos (bs.drop at_)
  have hbk : (getN (bs.drop at_)).2.2 = 0 → (getN (bs.drop at_)).1 ≤ 9223372036854775807 := fun e => (getN_back (dig_drop hd at_) e).2
  have hcut : ∀ ww, (Instr.sliceAt 22 (.slice ad n c) (some (.int .i64 (at_ : Int))) none none).run Tryd.prog ww = .ok (.slice (cutZ ad c at_ 1) (n - at_) (c - at_)) ww := fun ww => run_cutZ_lo undBy elemBy sizeBy ad n c at_ ww ha
  have HG : Hid (∀ w, Chg (fun _ => False) w0 w → Calls Tryd.prog 66 #[.slice (cutZ ad c at_ 1) (n - at_) (c - at_)] w fun e w' => e = .returned (.tuple #[.int .u64 ((getN (bs.drop at_)).1 : Int), .int .i64 ((getN (bs.drop at_)).2.1 : Int), .int .i64 (getN (bs.drop at_)).2.2]) ∧ w' = w) := fun w hw => (ivget_any _ _ _ _ w (row8_cutZ (Bk.row8_chg hr hw) hc ha) (dig_drop hd at_) (by omega) (by omega)).mono (fun e w' h9 => ⟨h9.1, h9.2.symm⟩)
  have hbl : bs.length = n := by have h9 := hr.1; rw [nums_len] at h9; exact h9
  rw [List.length_drop, hbl] at hpos
  generalize getN (bs.drop at_) = G at *
  obtain ⟨v, k, er⟩ := G
  simp only at hpos hbk HG ⊢
  obtain ⟨A, hA⟩ : ∃ A, at_ + k = A := ⟨_, rfl⟩
  have i0 : (at_ : Int) + (k : Int) = (A : Int) := by omega
  have hni : (n : Int) ≤ 140737488355328 := by omega
  have hAi : (A : Int) ≤ (n : Int) := by omega
  have hai : (at_ : Int) ≤ (n : Int) := by omega
  have hnl : ((n - at_ : Nat) : Int) = (n : Int) - (at_ : Int) := by omega
  rw [hA]
  obtain ⟨x0, x1, f1⟩ := h.x
  have HF : Hid (Fld w0 f ad n c at_) := h
  have HBK : Hid (er = 0 → v ≤ 9223372036854775807) := hbk
  clear h hA ha hr hd hc hn hbl hbk hpos
  go_enter Tryd.func53, Tryd.ntmps53
  go_upto_region 1 with fail
  go_quiet (first | (go_at_call 66; exact Calls.quiet_of_same (HG.out _ (chg_drewN _ _))))
  have H1 : Hid (Fld (w0.drewN nq) f ad n c at_ ∧ Chg (fun z => z = f) w0 (w0.drewN nq)) := ⟨HF.out.keep (chg_drewN _ _) (fun f => f), Vint.chg_drewN _ _⟩
  generalize w0.drewN nq = w1 at *
  obtain ⟨x0, x1, f1⟩ := H1.out.1.x
  by_cases he : er = 0
  · subst he
    have hv := HBK.out rfl
    have e3 : IntKind.i64.wrap (v : Int) = (v : Int) := w64i (by omega) (by omega)
    have H2 : Hid (Fld (w1.setCell ⟨f, 1, none⟩ (.int .i64 (A : Int))) f ad n c A ∧ Chg (fun z => z = f) w0 (w1.setCell ⟨f, 1, none⟩ (.int .i64 (A : Int)))) := ⟨H1.out.1.set A, H1.out.2.setCell (p := ⟨f, 1, none⟩) (.inl rfl) _⟩
    clear hv
    go_wp2
    go_ret
    first | exact ⟨.inr ⟨rfl, rfl, H2.out.1⟩, H2.out.2⟩ | exact ⟨.inr ⟨trivial, rfl, H2.out.1⟩, H2.out.2⟩ | exact ⟨⟨rfl, H2.out.1⟩, H2.out.2⟩ | exact ⟨H2.out.1, H2.out.2⟩
  · have y1 : (er != 0) = true := by simpa using he
    have y2 : (er == 0) = false := by simpa using he
    have HE : Hid (er ≠ 0) := he
    clear he
    go_wp2
    exact ⟨rfl, .inl ⟨HE.out, rfl⟩, H1.out.2⟩
end Go.Proofs.YtehfcfpbjenmjaaDoor
