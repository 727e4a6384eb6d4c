/- The contract of the document's Copy; of no statement by itself. -/
import Derived.Test.YthgibmhbgfjkcaaWs
namespace Go.Proofs.Ythgibmhbgfjkcaa
open Go.RowKit
set_option linter.unusedVariables false

/-- A copy is in order. -/
def Cpy (n : Nat) (bs : List Nat) (d m : Int) : Prop := Inw n bs d ∧ 0 ≤ m ∧ m ≤ 273
instance (n : Nat) (bs : List Nat) (d m : Int) : Decidable (Cpy n bs d m) := by unfold Cpy; infer_instance
structure RcW (w0 wr : World) (B r n : Nat) (v vr ov : Value) (bs : List Nat) (d k : Nat) : Prop where
  rw : Rw wr B r vr n (bs ++ copyL d bs k)
  out : wr.ownsRow w0.heap.size 5 1 ov k (ins .u8 (nums (copyL d bs k)))
  apart : ∀ g, ov.ownBlock = some g → ¬ Foot r vr g
  chg : Chg (Foot r v) w0 wr
  mov : Moved w0 v vr
set_option maxHeartbeats 4000000 in
set_option maxRecDepth 100000 in
theorem rcopy_any (B r : Nat) (v : Value) (n : Nat) (bs : List Nat) (d m : Int) (w0 : World) (h : Rw w0 B r v n bs) (hB : B ≤ w0.heap.size) (hn : n ≤ 4294967295) (hl : bs.length + 273 ≤ 140737488355328) : Calls Try.prog 30 #[.pointer (some ⟨r, 0, none⟩), .int .i64 d, .int .i64 m] w0 fun e w' =>
    (¬ Cpy n bs d m ∧ e = .returned (.tuple #[.slice none 0 0, .int .i64 7]) ∧ Chg (fun _ => False) w0 w')
    ∨ (Cpy n bs d m ∧ ∃ ov v', e = .returned (.tuple #[ov, .int .i64 0]) ∧ RcW w0 w' B r n v v' ov bs d.toNat m.toNat) := by
  obtain ⟨iu, hiu, hu0, hu1, hu2⟩ := info_parts infoU8
  have HH : Hid _ := rhas_any B r v n bs d w0 h hn (by omega)
  have HRW : Hid (Rw w0 B r v n bs) := h
  by_cases hi : Inw n bs d
  rotate_left
  · rw [decide_eq_false hi] at HH
    have HI : Hid (¬ Cpy n bs d m) := fun f => hi f.1
    clear h hl hi
    go_enter Try.func30, Try.ntmps30
    go_wp2_with fail
    refine Calls.mono HH.out ?_
    rintro z w1 ⟨rfl, c1⟩
    have HC : Hid (Chg (fun _ => False) w0 w1) := c1
    clear c1 HH
    go_wp2
    go_ret2
    exact .inl ⟨HI.out, rfl, HC.out⟩
  rw [decide_eq_true hi] at HH
  have HINW : Hid (Inw n bs d) := hi
  by_cases hm0 : m < 0
  · have hd1 : decide (m < 0) = true := by simp; omega
    have HI : Hid (¬ Cpy n bs d m) := fun f => by have := f.2.1; omega
    clear h hl hi
    go_enter Try.func30, Try.ntmps30
    go_wp2_with fail
    refine Calls.mono HH.out ?_
    rintro z w1 ⟨rfl, c1⟩
    have HC : Hid (Chg (fun _ => False) w0 w1) := c1
    clear c1 HH
    go_wp2
    go_ret2
    exact .inl ⟨HI.out, rfl, HC.out⟩
  have hd1 : decide (m < 0) = false := by simp; omega
  by_cases hm1 : 273 < m
  · have hd2 : decide (273 < m) = true := by simp; omega
    have HI : Hid (¬ Cpy n bs d m) := fun f => by have := f.2.2; omega
    clear h hl hi
    go_enter Try.func30, Try.ntmps30
    go_wp2_with fail
    refine Calls.mono HH.out ?_
    rintro z w1 ⟨rfl, c1⟩
    have HC : Hid (Chg (fun _ => False) w0 w1) := c1
    clear c1 HH
    go_wp2
    go_ret2
    exact .inl ⟨HI.out, rfl, HC.out⟩
  have hd2 : decide (273 < m) = false := by simp; omega
  have HCPY : Hid (Cpy n bs d m) := ⟨hi, by omega, by omega⟩
  obtain ⟨i1, i2, i3, i4⟩ := hi.nat
  obtain ⟨D, hD⟩ : ∃ D, d.toNat = D := ⟨_, rfl⟩
  rw [hD] at i1 i2 i3 i4
  subst i4
  obtain ⟨M, rfl⟩ : ∃ M : Nat, (M : Int) = m := ⟨m.toNat, by omega⟩
  simp only [Int.toNat_natCast]
  have hM : M ≤ 273 := by omega
  have HD1 : Hid (1 ≤ D ∧ D ≤ bs.length) := ⟨i1, i2⟩
  have HBL : Hid (bs.length + 273 ≤ 140737488355328) := hl
  have hDi : (D : Int) ≤ 4294967295 := by omega
  have HFZ : Hid (∀ z, Foot r v z → z < w0.heap.size) := fun z f => (h.lt f).2
  clear h hl hi i1 i2 i3 hD hm0 hm1
  go_enter Try.func30, Try.ntmps30
  go_wp2_with fail
  refine Calls.mono HH.out ?_
  rintro z w1 ⟨rfl, c1⟩
  have HW1 : Hid (RcW w0 w1 B r n v v (.slice none 0 0) bs D 0) := ⟨by rw [show copyL D bs 0 = [] from rfl, List.append_nil]; exact HRW.out.new c1, World.ownsRow_nil _ _ _ _, (fun g e => by cases e), c1.mono (fun _ f => f.elim), Moved.refl _ _⟩
  clear c1 HH HRW
  go_wp2_with fail
  go_loopw [8, 9] (fun ov iv wr => ∃ (k : Nat) (vr : Value), k ≤ M ∧ iv = .int .i64 (k : Int) ∧ Hid (RcW w0 wr B r n v vr ov bs D k)) (fun _ iv _ => M - (intOf iv).toNat)
  case atStart => exact ⟨0, v, Nat.zero_le _, rfl, HW1.out⟩
  case round =>
    clear HW1
    obtain ⟨k, vr, hk, rfl, HR⟩ := hrel
    obtain ⟨oa, oc, hov⟩ := form1 HR.out.out
    subst hov
    obtain ⟨ra, rc, hvr⟩ := form1 HR.out.rw.own
    by_cases hlt : k < M
    · have hdk : decide ((k : Int) < (M : Int)) = true := by simp; omega
      obtain ⟨L, hL⟩ : ∃ L, (bs ++ copyL D bs k).length = L := ⟨_, rfl⟩
      have hLe : L = bs.length + k := by rw [← hL, List.length_append, copyL_len]
      obtain ⟨b, hb⟩ : ∃ b, backB (bs ++ copyL D bs k) D = b := ⟨_, rfl⟩
      have hbk := backB_at (bs := bs ++ copyL D bs k) HD1.out.1 (by rw [hL, hLe]; have := HD1.out.2; omega)
      obtain ⟨K, hK⟩ : ∃ K, K = L - D := ⟨_, rfl⟩
      rw [hb, hL, ← hK] at hbk
      have hki : (L : Int) - (D : Int) = (K : Int) := by have := HD1.out.2; omega
      have hkl : K < L := by have := HD1.out.1; have := HD1.out.2; omega
      have hL9 : (L : Int) + 1 ≤ 140737488355328 := by have := HBL.out; omega
      have HSN : Hid (copyL D bs (k + 1) = copyL D bs k ++ [b]) := by show _ = _; rw [copyL_snoc, hb]
      rw [hL] at hvr
      subst hvr
      have k1 := cell1 HR.out.rw.blk
      have hrow : Row8 wr ra L rc (nums (bs ++ copyL D bs k)) := row8_own (by have := HR.out.rw.own; rw [hL] at this; exact this)
      obtain ⟨x, rfl, hcell⟩ := row8_cell hrow hbk
      have HL : Hid ((bs ++ copyL D bs k).length = L) := hL
      clear hrow hbk hb hL hLe hK
      go_wp2_with fail
      go_quiet (fail)
      have cq := chg_drewN wr nq
      have HR1 : Hid (RcW w0 (wr.drewN nq) B r n v (.slice (some x) L rc) (.slice oa k oc) bs D k) := ⟨HR.out.rw.new cq, ownsRow_keep HR.out.out cq (fun _ _ f => f), HR.out.apart, HR.out.chg.trans cq (fun _ f => f.elim), HR.out.mov⟩
      clear cq hcell k1 HR
      generalize wr.drewN nq = w2 at *
      have k1 := cell1 HR1.out.rw.blk
      have cA := chg_one w2 (.cells #[.int .u8 (b : Int)] 5)
      have hsrc : From (w2.alloc (.cells #[.int .u8 (b : Int)] 5)) (some ⟨w2.heap.size, 0, none⟩) 1 1 1 [.int .u8 (b : Int)] := (Bk.row8_one w2 (b : Int) 5).src
      have hown := ownsRow_keep HR1.out.rw.own cA (fun _ _ f => f)
      rw [HL.out] at hown
      have hsz : B ≤ (w2.alloc (.cells #[.int .u8 (b : Int)] 5)).heap.size := Nat.le_trans hB (Nat.le_trans HR1.out.chg.size cA.size)
      have hbA := blk_keep HR1.out.rw.blk cA (fun f => f)
      have kA := cell1 hbA
      have HCA : Hid (Chg (fun _ => False) w2 (w2.alloc (.cells #[.int .u8 (b : Int)] 5))) := cA
      have HBA : Hid ((w2.alloc (.cells #[.int .u8 (b : Int)] 5)).heap[r]? = some (.cells #[.int .i64 (n : Int), .slice (some x) L rc] 64 (0, 0))) := hbA
      clear cA hbA
      go_wp2_with (at_builtin; refine wpList_append_moved rfl _ _ 22 rfl B 5 iu (.int .u8 0) 1 1 Try.underlying22 hiu hu0 hu1 hu2 rfl (by decide) _ L (ins .u8 (nums (bs ++ copyL D bs k))) rfl (some ⟨w2.heap.size, 0, none⟩) 1 1 rfl [.int .u8 (b : Int)] hown hsrc (fun u hu => by simp at hu; subst hu; rfl) (by unfold maxLen; omega) (by omega) hsz ?_)
      intro v9 w9 ho9 hg9 hm9
      obtain ⟨a9, d9, hv9⟩ := form1 ho9
      subst hv9
      generalize hwA : w2.alloc (.cells #[.int .u8 (b : Int)] 5) = wA at *
      have hne : (Value.slice (some x) L rc).ownBlock ≠ some r := fun e => by
        obtain ⟨cur, hcur⟩ := owns_blk hown e
        exact ty_ne hcur HBA.out (by decide)
      have c9 : Chg (fun z => (Value.slice (some x) L rc).ownBlock = some z) wA w9 := (Chg.refl _ wA).grown hg9 (fun z e => .inl e)
      have b9 := blk_keep HBA.out c9 (fun f => hne f)
      have k9 := cell1 b9
      have f9 := free1 b9
      have hb3 : (w9.setCell ⟨r, 1, none⟩ (.slice a9 (L + 1) d9)).heap[r]? = some (.cells #[.int .i64 (n : Int), .slice a9 (L + 1) d9] 64 (0, 0)) := blk_set1 b9
      have cS : Chg (fun z => z = r) w9 (w9.setCell ⟨r, 1, none⟩ (.slice a9 (L + 1) d9)) := Chg.setCell (S := fun z => z = r) (Chg.refl _ w9) (p := ⟨r, 1, none⟩) (.inl rfl) _
      have ho9' : w9.ownsRow B 5 1 (.slice a9 (L + 1) d9) (L + 1) (ins .u8 (nums (bs ++ copyL D bs (k + 1)))) := by
        rw [HSN.out, ← List.append_assoc]
        exact own_app (b := [b]) ho9
      have hrw3 : Rw (w9.setCell ⟨r, 1, none⟩ (.slice a9 (L + 1) d9)) B r (.slice a9 (L + 1) d9) n (bs ++ copyL D bs (k + 1)) := by
        refine ⟨HR1.out.rw.hr, hb3, ownsRow_keep (by have h9 := HL.out; rw [List.length_append, copyL_len] at h9; rw [List.length_append, copyL_len, show bs.length + (k + 1) = L + 1 by omega]; exact ho9') cS (fun g e f => ?_)⟩
        rw [f] at e
        obtain ⟨cur, hcur⟩ := owns_blk ho9' e
        exact ty_ne hcur b9 (by decide)
      have c23 : Chg (Foot r (.slice (some x) L rc)) w2 (w9.setCell ⟨r, 1, none⟩ (.slice a9 (L + 1) d9)) := ((HCA.out.mono (fun _ f => f.elim)).trans c9 (fun z f => .inl (.inr f))).trans cS (fun z f => .inl (.inl f))
      have hap3 : ∀ g, (Value.slice oa k oc).ownBlock = some g → ¬ Foot r (.slice a9 (L + 1) d9) g := fun g e f => by
        rcases f with f | f
        · exact HR1.out.apart g e (.inl f)
        · rcases hm9 g f with q | q
          · exact HR1.out.apart g e (.inr q)
          · have h1 := (HR1.out.out.lt g e).2
            have h2 := HCA.out.size
            omega
      have HR3 : Hid (Rw (w9.setCell ⟨r, 1, none⟩ (.slice a9 (L + 1) d9)) B r (.slice a9 (L + 1) d9) n (bs ++ copyL D bs (k + 1)) ∧ (w9.setCell ⟨r, 1, none⟩ (.slice a9 (L + 1) d9)).ownsRow w0.heap.size 5 1 (.slice oa k oc) k (ins .u8 (nums (copyL D bs k))) ∧ (∀ g, (Value.slice oa k oc).ownBlock = some g → ¬ Foot r (.slice a9 (L + 1) d9) g) ∧ Chg (Foot r v) w0 (w9.setCell ⟨r, 1, none⟩ (.slice a9 (L + 1) d9)) ∧ Moved w0 v (.slice a9 (L + 1) d9)) := by
        refine ⟨hrw3, ownsRow_keep HR1.out.out c23 (fun g e f => HR1.out.apart g e f), hap3, HR1.out.chg.trans c23 (fun z f => HR1.out.mov.foot r z f), HR1.out.mov.trans (Nat.le_trans HR1.out.chg.size HCA.out.size) hm9⟩
      clear ho9 hg9 hm9 c9 b9 cS hb3 ho9' hrw3 c23 hap3 hown hsrc hsz k1 kA HR1 HCA HBA hne hwA
      have cB := chg_one (w9.setCell ⟨r, 1, none⟩ (.slice a9 (L + 1) d9)) (.cells #[.int .u8 (b : Int)] 5)
      have hsrc2 : From ((w9.setCell ⟨r, 1, none⟩ (.slice a9 (L + 1) d9)).alloc (.cells #[.int .u8 (b : Int)] 5)) (some ⟨(w9.setCell ⟨r, 1, none⟩ (.slice a9 (L + 1) d9)).heap.size, 0, none⟩) 1 1 1 [.int .u8 (b : Int)] := (Bk.row8_one _ (b : Int) 5).src
      have hown2 := ownsRow_keep HR3.out.2.1 cB (fun _ _ f => f)
      have hsz2 : w0.heap.size ≤ ((w9.setCell ⟨r, 1, none⟩ (.slice a9 (L + 1) d9)).alloc (.cells #[.int .u8 (b : Int)] 5)).heap.size := Nat.le_trans HR3.out.2.2.2.1.size cB.size
      have HCB : Hid (Chg (fun _ => False) (w9.setCell ⟨r, 1, none⟩ (.slice a9 (L + 1) d9)) _) := cB
      have hss : (w9.setCell ⟨r, 1, none⟩ (.slice a9 (L + 1) d9)).heap.size = w9.heap.size := by simp [World.setCell]
      rw [hss] at hsrc2
      clear cB hss
      go_wp2_with (at_builtin; refine wpList_append_moved rfl _ _ 22 rfl w0.heap.size 5 iu (.int .u8 0) 1 1 Try.underlying22 hiu hu0 hu1 hu2 rfl (by decide) _ k (ins .u8 (nums (copyL D bs k))) rfl (some ⟨w9.heap.size, 0, none⟩) 1 1 rfl [.int .u8 (b : Int)] hown2 hsrc2 (fun u hu => by simp at hu; subst hu; rfl) (by unfold maxLen; omega) (by omega) hsz2 ?_)
      intro v5 w5 ho5 hg5 hm5
      obtain ⟨a5, d5, hv5⟩ := form1 ho5
      subst hv5
      have HN : Hid (RcW w0 w5 B r n v (.slice a9 (L + 1) d9) (.slice a5 (k + 1) d5) bs D (k + 1)) := by
        obtain ⟨q1, q2, q3, q4, q5⟩ := HR3.out
        have c5 : Chg (fun z => (Value.slice oa k oc).ownBlock = some z) (w9.setCell ⟨r, 1, none⟩ (.slice a9 (L + 1) d9)) w5 := (HCB.out.mono (fun _ f => f.elim)).grown hg5 (fun z e => .inl e)
        refine ⟨q1.keep c5 (fun z f g => q3 z g f), ?_, fun g e f => ?_, q4.trans c5 (fun z f => .inr (q2.lt z f).1), q5⟩
        · rw [HSN.out]
          exact own_app (b := [b]) ho5
        · rcases hm5 g e with q | q
          · exact q3 g q f
          · have h1 := (q1.lt f).2
            have h2 := HCB.out.size
            omega
      clear ho5 hg5 hm5 hown2 hsrc2 hsz2 HR3 HCB k9 f9
      go_wp2_with fail
      go_roundw
      case rel => exact ⟨k + 1, _, by omega, by go_num, HN.out⟩
      case measure => simp [intOf]; omega
    · have hkM : M = k := by omega
      subst hkM
      have hdk : decide ((M : Int) < (M : Int)) = false := by simp
      go_wp2
      go_ret2
      exact .inr ⟨HCPY.out, _, vr, rfl, HR.out⟩
end Go.Proofs.Ythgibmhbgfjkcaa
