/- Several texts in one, none of a statement by itself: Dc, Dd, De2, Df. -/
import Derived.Test.YtibgjpifmpljkaaBoundI
import Derived.Test.YtibgjpifmpljkaaLastQ
import Derived.BigQuiet
import Derived.Deep.DeepCutAuto
import Derived.Defers
import Derived.Recover
/- The program's decoder in memory ('Dcd') and the contracts of its small calls; of no statement by themselves. -/
namespace Go.Proofs.Ytibgjpifmpljkaa
open Go.RowKit
set_option linter.unusedVariables false

structure Dcd (w : World) (B a : Nat) (v : Value) (bs : List Nat) (d : Rc.D) : Prop where
  hr : B ≤ a
  blk : w.heap[a]? = some (.cells #[v, .int .i64 (d.n : Int), .int .u32 (d.R : Int), .int .u32 (d.C : Int)] 91 (0, 0))
  own : w.ownsRow B 5 1 v bs.length (ins .u8 (nums bs))
theorem Dcd.keep {w w' : World} {S : Nat → Prop} {B a : Nat} {v : Value} {bs : List Nat} {d : Rc.D} (h : Dcd w B a v bs d) (hc : Chg S w w') (h1 : ¬ S a) (h2 : ∀ g, v.ownBlock = some g → ¬ S g) : Dcd w' B a v bs d := ⟨h.hr, blk_keep h.blk hc h1, ownsRow_keep h.own hc h2⟩
theorem Dcd.new {w w' : World} {B a : Nat} {v : Value} {bs : List Nat} {d : Rc.D} (h : Dcd w B a v bs d) (hc : Chg (fun _ => False) w w') : Dcd w' B a v bs d := h.keep hc (fun f => f) (fun _ _ f => f)
theorem Dcd.ne {w : World} {B a : Nat} {v : Value} {bs : List Nat} {d : Rc.D} (h : Dcd w B a v bs d) : v.ownBlock ≠ some a := fun e => by
  obtain ⟨cur, hcur⟩ := owns_blk h.own e
  exact ty_ne h.blk hcur (by decide)
theorem Dcd.lt {w : World} {B a : Nat} {v : Value} {bs : List Nat} {d : Rc.D} (h : Dcd w B a v bs d) : a < w.heap.size := lt_of_blk h.blk
/-- Its numbers are written. -/
theorem Dcd.put {w : World} {B a : Nat} {v : Value} {bs : List Nat} {d : Rc.D} (h : Dcd w B a v bs d) (k : Nat) (y : Value) (d' : Rc.D) (hd : ([v, .int .i64 (d.n : Int), .int .u32 (d.R : Int), .int .u32 (d.C : Int)] : List Value).set k y = [v, .int .i64 (d'.n : Int), .int .u32 (d'.R : Int), .int .u32 (d'.C : Int)]) : Dcd (w.setCell ⟨a, k, none⟩ y) B a v bs d' ∧ Chg (fun z => z = a) w (w.setCell ⟨a, k, none⟩ y) := by
  have c1 : Chg (fun z => z = a) w (w.setCell ⟨a, k, none⟩ y) := (Chg.refl (fun z => z = a) w).setCell (p := ⟨a, k, none⟩) (.inl rfl) _
  have b1 := blk_setk (l := [v, .int .i64 (d.n : Int), .int .u32 (d.R : Int), .int .u32 (d.C : Int)]) h.blk k y
  rw [hd] at b1
  exact ⟨⟨h.hr, b1, ownsRow_keep h.own c1 (fun g e e2 => h.ne (by rw [← e2]; exact e))⟩, c1⟩
theorem quiet (w : World) (n : Nat) : Chg (fun _ => False) w (w.drewN n) := chg_drewN w n

theorem dused_any (B a : Nat) (v : Value) (bs : List Nat) (d : Rc.D) (w : World) (h : Dcd w B a v bs d) : Calls Try.prog 33 #[.pointer (some ⟨a, 0, none⟩)] w fun e w' => e = .returned (.int .i64 (d.n : Int)) ∧ Chg (fun _ => False) w w' := by
  obtain ⟨_, k1, _, _, _⟩ := rcells4 h.blk
  clear h
  go_enter Try.func33, Try.ntmps33
  go_wp2
  go_ret
  exact ⟨rfl, Chg.refl _ _⟩

set_option maxHeartbeats 1000000 in
set_option maxRecDepth 100000 in
theorem ddone_any (B a : Nat) (v : Value) (bs : List Nat) (d : Rc.D) (w : World) (h : Dcd w B a v bs d) : Calls Try.prog 26 #[.pointer (some ⟨a, 0, none⟩)] w fun e w' => e = .returned (.bool (decide (d.n = bs.length ∧ d.C = 0))) ∧ Chg (fun _ => False) w w' := by
  obtain ⟨k0, k1, _, k3, _⟩ := rcells4 h.blk
  obtain ⟨ad, cap, hv, _⟩ := own_any h.own
  subst hv
  clear h
  by_cases h1 : d.n = bs.length
  · have hb : ((d.n : Int) == (bs.length : Int)) = true := by simp [h1]
    have hd : decide ((d.n : Int) = (bs.length : Int)) = true := by simp [h1]
    by_cases h2 : d.C = 0
    · have hb2 : ((d.C : Int) == 0) = true := by simp [h2]
      have hd2 : decide ((d.C : Int) = 0) = true := by simp [h2]
      have he : decide (d.n = bs.length ∧ d.C = 0) = true := by simp [h1, h2]
      rw [he]
      clear h1 h2 he
      go_enter Try.func26, Try.ntmps26
      go_wp2_with fail
      go_quiet (fail)
      go_wp2
      go_ret
      exact ⟨rfl, chg_drewN _ _⟩
    · have hb2 : ((d.C : Int) == 0) = false := by simp; omega
      have hd2 : decide ((d.C : Int) = 0) = false := by simp; omega
      have he : decide (d.n = bs.length ∧ d.C = 0) = false := by simp [h2]
      rw [he]
      clear h1 h2 he
      go_enter Try.func26, Try.ntmps26
      go_wp2_with fail
      go_quiet (fail)
      go_wp2
      go_ret
      exact ⟨rfl, chg_drewN _ _⟩
  · have hb : ((d.n : Int) == (bs.length : Int)) = false := by simp; omega
    have hd : decide ((d.n : Int) = (bs.length : Int)) = false := by simp; omega
    have he : decide (d.n = bs.length ∧ d.C = 0) = false := by simp [h1]
    rw [he]
    clear h1 he
    go_enter Try.func26, Try.ntmps26
    go_wp2_with fail
    go_quiet (fail)
    go_wp2
    go_ret
    exact ⟨rfl, chg_drewN _ _⟩

set_option maxHeartbeats 1000000 in
set_option maxRecDepth 100000 in
theorem dcut_any (B a : Nat) (v : Value) (bs : List Nat) (d : Rc.D) (b : Nat) (w : World) (h : Dcd w B a v bs d) (hC : d.C < d.R) (hR : d.R ≤ 4294967295) : Calls Try.prog 76 #[.pointer (some ⟨a, 0, none⟩), .int .u32 (b : Int)] w fun e w' => e = .returned (.int .i64 (bt (Rc.oneD d b))) ∧ Dcd w' B a v bs (Rc.partD d b) ∧ Chg (fun z => z = a) w w' := by
  have HH : Hid (Dcd w B a v bs d) := h
  obtain ⟨_, _, k2, k3, fz⟩ := rcells4 h.blk
  have f2 := fz 2
  have f3 := fz 3
  clear h fz
  by_cases hb : b ≤ d.C
  · have e1 : Rc.oneD d b = true := decide_eq_true hb
    have e2 : Rc.partD d b = ⟨d.n, d.R - b, d.C - b⟩ := by unfold Rc.partD; rw [if_pos hb]
    rw [e1, e2]
    obtain ⟨r, hr⟩ : ∃ r : Int, r = (d.R : Int) := ⟨_, rfl⟩
    obtain ⟨c, hc⟩ : ∃ c : Int, c = (d.C : Int) := ⟨_, rfl⟩
    obtain ⟨y, hy⟩ : ∃ y : Int, y = (b : Int) := ⟨_, rfl⟩
    have x1 : IntKind.u32.wrap (c - y) = c - y := by simp [IntKind.wrap, IntKind.signed, IntKind.bits]; omega
    have x2 : IntKind.u32.wrap (r - y) = r - y := by simp [IntKind.wrap, IntKind.signed, IntKind.bits]; omega
    have x3 : decide (c < y) = false := by simp; omega
    obtain ⟨p1, q1⟩ := HH.out.put 3 (.int .u32 (c - y)) ⟨d.n, d.R, d.C - b⟩ (by simp; omega)
    obtain ⟨p2, q2⟩ := p1.put 2 (.int .u32 (r - y)) ⟨d.n, d.R - b, d.C - b⟩ (by simp; omega)
    have g2 := (rcells4 p1.blk).2.2.1
    have fg2 := (rcells4 p1.blk).2.2.2.2 2
    simp only at g2
    have HP : Hid (Dcd ((w.setCell ⟨a, 3, none⟩ (.int .u32 (c - y))).setCell ⟨a, 2, none⟩ (.int .u32 (r - y))) B a v bs ⟨d.n, d.R - b, d.C - b⟩) := p2
    have HQ : Hid (Chg (fun z => z = a) w ((w.setCell ⟨a, 3, none⟩ (.int .u32 (c - y))).setCell ⟨a, 2, none⟩ (.int .u32 (r - y)))) := q1.trans q2 (fun _ f => .inl f)
    rw [← hr] at k2 g2
    rw [← hc] at k3
    rw [← hy]
    clear p1 q1 p2 q2 e1 e2 hr hc hy hb hC hR
    go_enter Try.func76, Try.ntmps76
    go_wp2
    go_ret
    exact ⟨rfl, HP.out, HQ.out⟩
  · have e1 : Rc.oneD d b = false := decide_eq_false hb
    have e2 : Rc.partD d b = ⟨d.n, b, d.C⟩ := by unfold Rc.partD; rw [if_neg hb]
    rw [e1, e2]
    obtain ⟨c, hc⟩ : ∃ c : Int, c = (d.C : Int) := ⟨_, rfl⟩
    obtain ⟨y, hy⟩ : ∃ y : Int, y = (b : Int) := ⟨_, rfl⟩
    have x4 : c < y := by omega
    have x3 : decide (c < y) = true := by simp; omega
    obtain ⟨p1, q1⟩ := HH.out.put 2 (.int .u32 y) ⟨d.n, b, d.C⟩ (by simp; omega)
    have HP : Hid (Dcd (w.setCell ⟨a, 2, none⟩ (.int .u32 y)) B a v bs ⟨d.n, b, d.C⟩) := p1
    have HQ : Hid (Chg (fun z => z = a) w (w.setCell ⟨a, 2, none⟩ (.int .u32 y))) := q1
    rw [← hc] at k3
    rw [← hy]
    clear p1 q1 e1 e2 hb hC hR hc hy
    go_enter Try.func76, Try.ntmps76
    go_wp2
    go_ret
    exact ⟨rfl, HP.out, HQ.out⟩

/-- What a step gives up with. -/
def gave (e : Int) : List PanicEntry := [{ v := .iface 24 (.int .i64 e), recovered := false }]
theorem assert_any (e : Int) (w : World) : (Instr.typeAssert (.iface 24 (.int .i64 e)) 20 24 false).run Try.prog w = .ok (.int .i64 e) w := by kernel_rfl
set_option maxRecDepth 100000 in
theorem reason_any (e : Int) (w : World) : Calls Try.prog 75 #[.iface 24 (.int .i64 e)] w fun x w' => x = .returned (.int .i64 e) ∧ w = w' := by
  have hta := assert_any e
  go_enter Try.func75, Try.ntmps75
  go_wp2
  go_ret
  exact ⟨rfl, rfl⟩

set_option maxHeartbeats 1000000 in
set_option maxRecDepth 100000 in
theorem dnext_dry (B a : Nat) (v : Value) (bs : List Nat) (d : Rc.D) (w : World) (h : Dcd w B a v bs d) (hn : d.n = bs.length) : Calls Try.prog 96 #[.pointer (some ⟨a, 0, none⟩)] w fun e w' => e = .panicked (gave 1) ∧ Chg (fun _ => False) w w' := by
  obtain ⟨k0, k1, _, _, _⟩ := rcells4 h.blk
  obtain ⟨ad, cap, hv, _⟩ := own_any h.own
  subst hv
  have hb : ((d.n : Int) == (bs.length : Int)) = true := by simp [hn]
  have hd : decide ((d.n : Int) = (bs.length : Int)) = true := by simp [hn]
  clear h hn
  go_enter Try.func96, Try.ntmps96
  go_wp2_with fail
  go_quiet (fail)
  go_wp2
  exact ⟨rfl, rfl, chg_drewN _ _⟩

set_option maxHeartbeats 1000000 in
set_option maxRecDepth 100000 in
theorem dnext_some (B a : Nat) (v : Value) (bs : List Nat) (d : Rc.D) (w : World) (h : Dcd w B a v bs d) (hn : d.n < bs.length) (hl : bs.length ≤ 140737488355328) : Calls Try.prog 96 #[.pointer (some ⟨a, 0, none⟩)] w fun e w' => e = .returned (.int .u8 (bs.getD d.n 0 : Nat)) ∧ Dcd w' B a v bs ⟨d.n + 1, d.R, d.C⟩ ∧ Chg (fun z => z = a) w w' := by
  have HH : Hid (Dcd w B a v bs d) := h
  obtain ⟨k0, k1, _, _, fz⟩ := rcells4 h.blk
  have f1 := fz 1
  obtain ⟨g, cap, hv, _, _, _, _, _, hcl⟩ := own_some h.own (by omega)
  have hx : w.cell? ⟨g, d.n, none⟩ = some (.int .u8 (bs.getD d.n 0 : Nat)) := hcl d.n _ (by simp [ins, nums, hn])
  obtain ⟨x, hxx⟩ : ∃ x : Int, x = ((bs.getD d.n 0 : Nat) : Int) := ⟨_, rfl⟩
  rw [← hxx] at hx ⊢
  have hb : ((d.n : Int) == (bs.length : Int)) = false := by simp; omega
  have hd : decide ((d.n : Int) = (bs.length : Int)) = false := by simp; omega
  have y1 : (d.n : Int) < (bs.length : Int) := by omega
  have y2 : 0 ≤ (d.n : Int) := by omega
  have y3 : IntKind.i64.wrap ((d.n : Int) + 1) = (d.n : Int) + 1 := wr64 (by omega) (by omega)
  subst hv
  have HP : ∀ nq, Hid (Dcd ((w.drewN nq).setCell ⟨a, 1, none⟩ (.int .i64 ((d.n : Int) + 1))) B a (.slice (some ⟨g, 0, none⟩) bs.length cap) bs ⟨d.n + 1, d.R, d.C⟩ ∧ Chg (fun z => z = a) w ((w.drewN nq).setCell ⟨a, 1, none⟩ (.int .i64 ((d.n : Int) + 1)))) := fun nq => by
    obtain ⟨p1, q1⟩ := (HH.out.new (chg_drewN w nq)).put 1 (.int .i64 ((d.n : Int) + 1)) ⟨d.n + 1, d.R, d.C⟩ (by simp)
    exact ⟨p1, ((chg_drewN w nq).mono (T := fun z => z = a) (fun _ f => f.elim)).trans q1 (fun _ f => .inl f)⟩
  clear h fz hcl hxx HH
  go_enter Try.func96, Try.ntmps96
  go_wp2_with fail
  go_quiet (fail)
  go_wp2_with fail
  go_quiet (fail)
  go_wp2
  go_ret
  refine ⟨rfl, ?_⟩
  exact (HP _).out
end Go.Proofs.Ytibgjpifmpljkaa

/- The contracts of the program's decoder's widen and halve, which may give up; of no statement by themselves. -/
namespace Go.Proofs.Ytibgjpifmpljkaa
open Go.RowKit
set_option linter.unusedVariables false

theorem or8 (c x : Nat) (hc : c < 16777216) (hx : x < 256) : bits .or .u32 ((c : Int) * 256) (x : Int) = ((256 * c + x : Nat) : Int) := by
  have e0 : ((c : Int) * 256) = ((256 * c : Nat) : Int) := by omega
  rw [e0, u32_or_nat _ _ (by omega) (by omega)]
  have := Nat.two_pow_add_eq_or_of_lt (i := 8) (b := x) (by omega) c
  have e : 2 ^ 8 * c = 256 * c := by omega
  rw [e] at this
  rw [← this]
theorem or1 (c x : Nat) (hc : c < 2147483648) (hx : x < 2) : bits .or .u32 ((c : Int) * 2) (x : Int) = ((2 * c + x : Nat) : Int) := by
  have e0 : ((c : Int) * 2) = ((2 * c : Nat) : Int) := by omega
  rw [e0, u32_or_nat _ _ (by omega) (by omega)]
  have := Nat.two_pow_add_eq_or_of_lt (i := 1) (b := x) (by omega) c
  have e : 2 ^ 1 * c = 2 * c := by omega
  rw [e] at this
  rw [← this]

theorem dwiden_no (B a : Nat) (v : Value) (bs : List Nat) (d : Rc.D) (w : World) (h : Dcd w B a v bs d) (hR : 16777216 ≤ d.R) : Calls Try.prog 77 #[.pointer (some ⟨a, 0, none⟩)] w fun e w' => e = .returned (.tuple #[]) ∧ w = w' := by
  obtain ⟨_, _, k2, _, _⟩ := rcells4 h.blk
  obtain ⟨z, hz⟩ : ∃ z : Int, z = (d.R : Int) := ⟨_, rfl⟩
  have h1 : 16777216 ≤ z := by omega
  have h2 : decide (z < 16777216) = false := by simp; omega
  rw [← hz] at k2
  clear h hz hR
  go_enter Try.func77, Try.ntmps77
  go_wp2
  go_end0
  exact ⟨rfl, rfl⟩

set_option maxHeartbeats 2000000 in
set_option maxRecDepth 100000 in
theorem dwiden_yes (B a : Nat) (v : Value) (bs : List Nat) (d : Rc.D) (w0 : World) (h : Dcd w0 B a v bs d) (hR : d.R < 16777216) (hC : d.C < d.R) (hn : d.n < bs.length) (hl : bs.length ≤ 140737488355328) (hdig : Rc.Dig bs) : Calls Try.prog 77 #[.pointer (some ⟨a, 0, none⟩)] w0 fun e w' => e = .returned (.tuple #[]) ∧ Dcd w' B a v bs ⟨d.n + 1, 256 * d.R, 256 * d.C + bs.getD d.n 0⟩ ∧ Chg (fun z => z = a) w0 w' := by
  have HH : Hid (Dcd w0 B a v bs d) := h
  obtain ⟨_, _, k2, _, fz⟩ := rcells4 h.blk
  have f2 := fz 2
  obtain ⟨r, hr⟩ : ∃ r : Int, r = (d.R : Int) := ⟨_, rfl⟩
  have h1 : r < 16777216 := by omega
  have h2 : decide (r < 16777216) = true := by simp; omega
  have h3 : r * 256 % 4294967296 = r * 256 := by omega
  obtain ⟨p1, q1⟩ := h.put 2 (.int .u32 (r * 256)) ⟨d.n, 256 * d.R, d.C⟩ (by simp; omega)
  have HP : Hid (Dcd (w0.setCell ⟨a, 2, none⟩ (.int .u32 (r * 256))) B a v bs ⟨d.n, 256 * d.R, d.C⟩) := p1
  have HQ : Hid (Chg (fun z => z = a) w0 (w0.setCell ⟨a, 2, none⟩ (.int .u32 (r * 256)))) := q1
  rw [← hr] at k2
  obtain ⟨c, hc⟩ : ∃ c : Nat, c = d.C := ⟨_, rfl⟩
  have c1 : (c : Int) < 16777216 := by omega
  have c2 : (c : Int) * 256 % 4294967296 = (c : Int) * 256 := by omega
  have HC0 : Hid (c = d.C) := hc
  clear p1 q1 h fz hr hc
  obtain ⟨x, hx⟩ : ∃ x : Nat, x = bs.getD d.n 0 := ⟨_, rfl⟩
  have HX : Hid (bs.getD d.n 0 = x) := hx.symm
  have x1 : (x : Int) < 256 := by have := dig_at hdig d.n; omega
  have x2 : (x : Int) % 4294967296 = (x : Int) := by omega
  have HN : Hid (d.n < bs.length) := hn
  have HOR : Hid (bits .or .u32 ((c : Int) * 256) (x : Int) = ((256 * c + x : Nat) : Int)) := or8 c x (by omega) (by omega)
  rw [← hx, ← HC0.out]
  clear hx hn hR hC
  go_enter Try.func77, Try.ntmps77
  go_wp2_with fail
  refine wp_region_phaseQ (mk := fun u => #[_, _, _, _, _, _, _, _, _, _, _, _, _, _, u 14, u 15, u 16, u 17, u 18, u 19, u 20, u 21, u 22, u 23, u 24, u 25]) (G := lookG [(14, .pointer (some ⟨a, 0, none⟩)), (15, .pointer (some ⟨a, 0, none⟩)), (16, .pointer (some ⟨a, 0, none⟩)), (17, .pointer (some ⟨a, 3, none⟩)), (18, .int .u32 (c : Int)), (19, .int .u32 ((c : Int) * 256)), (20, .pointer (some ⟨a, 0, none⟩)), (21, .int .u8 (x : Int)), (22, .int .u32 (x : Int)), (23, .int .u32 ((256 * c + x : Nat) : Int)), (24, .pointer (some ⟨a, 0, none⟩)), (25, .pointer (some ⟨a, 3, none⟩))]) (J := fun q _ w => Dcd w B a v bs ⟨d.n + q, 256 * d.R, d.C⟩ ∧ Chg (fun z => z = a) w0 w) [7] (fun i =>  1) ([]) (fun _ => undef) rfl (by kernel_rfl) 12 _ rfl rfl (by kernel_rfl) (by kernel_rfl) (by kernel_rfl) (by decide) ?_ ?_ ?_ (by kernel_rfl) ?_ ?_
  · repeat (refine ⟨fun _ _ => rfl, ?_⟩)
    exact trivial
  · exact fun q u u2 w _ h => h
  · exact ⟨HP.out.new (Chg.refl _ _).drew, HQ.out.trans (Chg.refl (fun _ => False) _).drew (fun _ f => f.elim)⟩
  · refine ⟨?_, ?_, ?_, ?_, ?_, ?_, ?_, ?_, ?_, ?_, ?_, ?_, trivial⟩
    · show StepRQ _ _ _ _ _ _ _ _ _ -- 14
      unfold StepRQ
      intro q hq u w hj hd K hK
      clear hd
      go_simp
      exact hK.out (.pointer (some ⟨a, 0, none⟩)) rfl
    · show StepRQ _ _ _ _ _ _ _ _ _ -- 15
      unfold StepRQ
      intro q hq u w hj hd K hK
      clear hd
      go_simp
      exact hK.out (.pointer (some ⟨a, 0, none⟩)) rfl
    · show StepRQ _ _ _ _ _ _ _ _ _ -- 16
      unfold StepRQ
      intro q hq u w hj hd K hK
      have h15 : u 15 = .pointer (some ⟨a, 0, none⟩) := hd.get 1 (by kernel_rfl)
      clear hd
      simp only [h15] at hK
      go_simp
      exact hK.out (.pointer (some ⟨a, 0, none⟩)) rfl
    · show StepRQ _ _ _ _ _ _ _ _ _ -- 17
      unfold StepRQ
      intro q hq u w hj hd K hK
      have h16 : u 16 = .pointer (some ⟨a, 0, none⟩) := hd.get 2 (by kernel_rfl)
      clear hd
      simp only [h16] at hK
      go_simp
      exact hK.out (.pointer (some ⟨a, 3, none⟩)) rfl
    · show StepRQ _ _ _ _ _ _ _ _ _ -- 18
      unfold StepRQ
      intro q hq u w hj hd K hK
      have h17 : u 17 = .pointer (some ⟨a, 3, none⟩) := hd.get 3 (by kernel_rfl)
      clear hd
      simp only [h17] at hK
      have hcell : w.cell? ⟨a, 3, none⟩ = some (.int .u32 (c : Int)) := by rw [HC0.out]; exact (rcells4 hj.1.blk).2.2.2.1
      go_simp
      exact hK.out _ rfl
    · show StepRQ _ _ _ _ _ _ _ _ _ -- 19
      unfold StepRQ
      intro q hq u w hj hd K hK
      have h18 : u 18 = .int .u32 (c : Int) := hd.get 4 (by kernel_rfl)
      clear hd
      simp only [h18] at hK
      go_simp
      first | exact hK.out (.int .u32 ((c : Int) * 256)) rfl | (rw [show IntKind.u32.wrap ((c : Int) * 256) = (c : Int) * 256 by simp [IntKind.wrap, IntKind.signed, IntKind.bits]; omega]; exact hK.out (.int .u32 ((c : Int) * 256)) rfl)
    · show StepRQ _ _ _ _ _ _ _ _ _ -- 20
      unfold StepRQ
      intro q hq u w hj hd K hK
      clear hd
      go_simp
      exact hK.out (.pointer (some ⟨a, 0, none⟩)) rfl
    · show StepWQ _ _ _ _ _ _ _ _ _ -- 21
      unfold StepWQ
      intro u w hj hd K hK
      have h20 : u 20 = .pointer (some ⟨a, 0, none⟩) := hd.get 6 (by kernel_rfl)
      clear hd
      simp only [h20] at hK
      obtain ⟨hD, hc⟩ := hj
      go_simp
      go_at_call 96
      refine (dnext_some B a v bs ⟨d.n + 0, 256 * d.R, d.C⟩ w hD HN.out hl).mono ?_
      rintro x2 w2 ⟨rfl, hD2, hc2⟩
      exact hK.out _ w2 ⟨hD2, hc.trans hc2 (fun _ f => .inl f)⟩ (by show lookG _ _ (.int .u8 ((bs.getD d.n 0 : Nat) : Int)); rw [HX.out]; rfl)
    · show StepRQ _ _ _ _ _ _ _ _ _ -- 22
      unfold StepRQ
      intro q hq u w hj hd K hK
      have h21 : u 21 = .int .u8 (x : Int) := hd.get 7 (by kernel_rfl)
      clear hd
      simp only [h21] at hK
      go_simp
      first | exact hK.out (.int .u32 (x : Int)) rfl | (rw [show IntKind.u32.wrap (x : Int) = (x : Int) by simp [IntKind.wrap, IntKind.signed, IntKind.bits]; omega]; exact hK.out (.int .u32 (x : Int)) rfl)
    · show StepRQ _ _ _ _ _ _ _ _ _ -- 23
      unfold StepRQ
      intro q hq u w hj hd K hK
      have h19 : u 19 = .int .u32 ((c : Int) * 256) := hd.get 5 (by kernel_rfl)
      have h22 : u 22 = .int .u32 (x : Int) := hd.get 8 (by kernel_rfl)
      clear hd
      simp only [h19, h22] at hK
      go_simp
      rw [HOR.out]
      exact hK.out _ rfl
    · show StepRQ _ _ _ _ _ _ _ _ _ -- 24
      unfold StepRQ
      intro q hq u w hj hd K hK
      have h14 : u 14 = .pointer (some ⟨a, 0, none⟩) := hd.get 0 (by kernel_rfl)
      clear hd
      simp only [h14] at hK
      go_simp
      exact hK.out (.pointer (some ⟨a, 0, none⟩)) rfl
    · show StepRQ _ _ _ _ _ _ _ _ _ -- 25
      unfold StepRQ
      intro q hq u w hj hd K hK
      have h24 : u 24 = .pointer (some ⟨a, 0, none⟩) := hd.get 10 (by kernel_rfl)
      clear hd
      simp only [h24] at hK
      go_simp
      exact hK.out (.pointer (some ⟨a, 3, none⟩)) rfl
  · intro u w hj hA K hK
    have e23 : u 23 = .int .u32 ((256 * c + x : Nat) : Int) := hA.at 23 (by kernel_rfl)
    have e25 : u 25 = .pointer (some ⟨a, 3, none⟩) := hA.at 25 (by kernel_rfl)
    clear hA
    obtain ⟨hD, hc⟩ := hj
    have g3 := (rcells4 hD.blk).2.2.2.1
    have fg3 := (rcells4 hD.blk).2.2.2.2 3
    obtain ⟨hD2, hc2⟩ := hD.put 3 (.int .u32 ((256 * c + x : Nat) : Int)) ⟨d.n + 1, 256 * d.R, 256 * c + x⟩ rfl
    have HD2 : Hid (Dcd (w.setCell ⟨a, 3, none⟩ (.int .u32 ((256 * c + x : Nat) : Int))) B a v bs ⟨d.n + 1, 256 * d.R, 256 * c + x⟩) := hD2
    have HC2 : Hid (Chg (fun z => z = a) w0 (w.setCell ⟨a, 3, none⟩ (.int .u32 ((256 * c + x : Nat) : Int)))) := hc.trans hc2 (fun _ f => .inl f)
    clear hD hc hD2 hc2
    generalize ((256 * c + x : Nat) : Int) = y at *
    go_simp
    refine hK.out _ _ ?_
    go_wp2
    go_end0
    exact ⟨rfl, HD2.out, HC2.out⟩

set_option maxHeartbeats 2000000 in
set_option maxRecDepth 100000 in
theorem dwiden_dry (B a : Nat) (v : Value) (bs : List Nat) (d : Rc.D) (w0 : World) (h : Dcd w0 B a v bs d) (hR : d.R < 16777216) (hC : d.C < d.R) (hn : d.n = bs.length) : Calls Try.prog 77 #[.pointer (some ⟨a, 0, none⟩)] w0 fun e w' => e = .panicked (gave 1) ∧ (∃ d', Dcd w' B a v bs d') ∧ Chg (fun z => z = a) w0 w' := by
  have HH : Hid (Dcd w0 B a v bs d) := h
  obtain ⟨_, _, k2, _, fz⟩ := rcells4 h.blk
  have f2 := fz 2
  obtain ⟨r, hr⟩ : ∃ r : Int, r = (d.R : Int) := ⟨_, rfl⟩
  have h1 : r < 16777216 := by omega
  have h2 : decide (r < 16777216) = true := by simp; omega
  have h3 : r * 256 % 4294967296 = r * 256 := by omega
  obtain ⟨p1, q1⟩ := h.put 2 (.int .u32 (r * 256)) ⟨d.n, 256 * d.R, d.C⟩ (by simp; omega)
  have HP : Hid (Dcd (w0.setCell ⟨a, 2, none⟩ (.int .u32 (r * 256))) B a v bs ⟨d.n, 256 * d.R, d.C⟩) := p1
  have HQ : Hid (Chg (fun z => z = a) w0 (w0.setCell ⟨a, 2, none⟩ (.int .u32 (r * 256)))) := q1
  rw [← hr] at k2
  obtain ⟨c, hc⟩ : ∃ c : Nat, c = d.C := ⟨_, rfl⟩
  have c1 : (c : Int) < 16777216 := by omega
  have c2 : (c : Int) * 256 % 4294967296 = (c : Int) * 256 := by omega
  have HC0 : Hid (c = d.C) := hc
  clear p1 q1 h fz hr hc
  obtain ⟨x, hx⟩ : ∃ x : Nat, x = 0 := ⟨_, rfl⟩
  have x1 : (x : Int) < 256 := by omega
  have x2 : (x : Int) % 4294967296 = (x : Int) := by omega
  have HN : Hid (d.n = bs.length) := hn
  have HOR : Hid (bits .or .u32 ((c : Int) * 256) (x : Int) = ((256 * c + x : Nat) : Int)) := or8 c x (by omega) (by omega)
  clear hx hn hR hC
  go_enter Try.func77, Try.ntmps77
  go_wp2_with fail
  refine wp_region_phaseQ (mk := fun u => #[_, _, _, _, _, _, _, _, _, _, _, _, _, _, u 14, u 15, u 16, u 17, u 18, u 19, u 20, u 21, u 22, u 23, u 24, u 25]) (G := lookG [(14, .pointer (some ⟨a, 0, none⟩)), (15, .pointer (some ⟨a, 0, none⟩)), (16, .pointer (some ⟨a, 0, none⟩)), (17, .pointer (some ⟨a, 3, none⟩)), (18, .int .u32 (c : Int)), (19, .int .u32 ((c : Int) * 256)), (20, .pointer (some ⟨a, 0, none⟩)), (21, .int .u8 (x : Int)), (22, .int .u32 (x : Int)), (23, .int .u32 ((256 * c + x : Nat) : Int)), (24, .pointer (some ⟨a, 0, none⟩)), (25, .pointer (some ⟨a, 3, none⟩))]) (J := fun q _ w => q = 0 ∧ Dcd w B a v bs ⟨d.n, 256 * d.R, d.C⟩ ∧ Chg (fun z => z = a) w0 w) [7] (fun i =>  1) ([]) (fun _ => undef) rfl (by kernel_rfl) 12 _ rfl rfl (by kernel_rfl) (by kernel_rfl) (by kernel_rfl) (by decide) ?_ ?_ ?_ (by kernel_rfl) ?_ ?_
  · repeat (refine ⟨fun _ _ => rfl, ?_⟩)
    exact trivial
  · exact fun q u u2 w _ h => h
  · exact ⟨rfl, HP.out.new (Chg.refl _ _).drew, HQ.out.trans (Chg.refl (fun _ => False) _).drew (fun _ f => f.elim)⟩
  · refine ⟨?_, ?_, ?_, ?_, ?_, ?_, ?_, ?_, ?_, ?_, ?_, ?_, trivial⟩
    · show StepRQ _ _ _ _ _ _ _ _ _ -- 14
      unfold StepRQ
      intro q hq u w hj hd K hK
      clear hd
      go_simp
      exact hK.out (.pointer (some ⟨a, 0, none⟩)) rfl
    · show StepRQ _ _ _ _ _ _ _ _ _ -- 15
      unfold StepRQ
      intro q hq u w hj hd K hK
      clear hd
      go_simp
      exact hK.out (.pointer (some ⟨a, 0, none⟩)) rfl
    · show StepRQ _ _ _ _ _ _ _ _ _ -- 16
      unfold StepRQ
      intro q hq u w hj hd K hK
      have h15 : u 15 = .pointer (some ⟨a, 0, none⟩) := hd.get 1 (by kernel_rfl)
      clear hd
      simp only [h15] at hK
      go_simp
      exact hK.out (.pointer (some ⟨a, 0, none⟩)) rfl
    · show StepRQ _ _ _ _ _ _ _ _ _ -- 17
      unfold StepRQ
      intro q hq u w hj hd K hK
      have h16 : u 16 = .pointer (some ⟨a, 0, none⟩) := hd.get 2 (by kernel_rfl)
      clear hd
      simp only [h16] at hK
      go_simp
      exact hK.out (.pointer (some ⟨a, 3, none⟩)) rfl
    · show StepRQ _ _ _ _ _ _ _ _ _ -- 18
      unfold StepRQ
      intro q hq u w hj hd K hK
      have h17 : u 17 = .pointer (some ⟨a, 3, none⟩) := hd.get 3 (by kernel_rfl)
      clear hd
      simp only [h17] at hK
      have hcell : w.cell? ⟨a, 3, none⟩ = some (.int .u32 (c : Int)) := by rw [HC0.out]; exact (rcells4 hj.2.1.blk).2.2.2.1
      go_simp
      exact hK.out _ rfl
    · show StepRQ _ _ _ _ _ _ _ _ _ -- 19
      unfold StepRQ
      intro q hq u w hj hd K hK
      have h18 : u 18 = .int .u32 (c : Int) := hd.get 4 (by kernel_rfl)
      clear hd
      simp only [h18] at hK
      go_simp
      first | exact hK.out (.int .u32 ((c : Int) * 256)) rfl | (rw [show IntKind.u32.wrap ((c : Int) * 256) = (c : Int) * 256 by simp [IntKind.wrap, IntKind.signed, IntKind.bits]; omega]; exact hK.out (.int .u32 ((c : Int) * 256)) rfl)
    · show StepRQ _ _ _ _ _ _ _ _ _ -- 20
      unfold StepRQ
      intro q hq u w hj hd K hK
      clear hd
      go_simp
      exact hK.out (.pointer (some ⟨a, 0, none⟩)) rfl
    · show StepWQ _ _ _ _ _ _ _ _ _ -- 21
      unfold StepWQ
      intro u w hj hd K hK
      have h20 : u 20 = .pointer (some ⟨a, 0, none⟩) := hd.get 6 (by kernel_rfl)
      clear hd
      obtain ⟨_, hD, hc⟩ := hj
      go_simp
      go_at_call 96
      refine (dnext_dry B a v bs ⟨d.n, 256 * d.R, d.C⟩ w hD HN.out).mono ?_
      rintro x2 w2 ⟨rfl, hc2⟩
      exact ⟨rfl, rfl, ⟨_, hD.new hc2⟩, hc.trans hc2 (fun _ f => f.elim)⟩
    · show StepRQ _ _ _ _ _ _ _ _ _ -- 22
      unfold StepRQ
      intro q hq u w hj hd K hK
      have h21 : u 21 = .int .u8 (x : Int) := hd.get 7 (by kernel_rfl)
      clear hd
      simp only [h21] at hK
      go_simp
      first | exact hK.out (.int .u32 (x : Int)) rfl | (rw [show IntKind.u32.wrap (x : Int) = (x : Int) by simp [IntKind.wrap, IntKind.signed, IntKind.bits]; omega]; exact hK.out (.int .u32 (x : Int)) rfl)
    · show StepRQ _ _ _ _ _ _ _ _ _ -- 23
      unfold StepRQ
      intro q hq u w hj hd K hK
      have h19 : u 19 = .int .u32 ((c : Int) * 256) := hd.get 5 (by kernel_rfl)
      have h22 : u 22 = .int .u32 (x : Int) := hd.get 8 (by kernel_rfl)
      clear hd
      simp only [h19, h22] at hK
      go_simp
      rw [HOR.out]
      exact hK.out _ rfl
    · show StepRQ _ _ _ _ _ _ _ _ _ -- 24
      unfold StepRQ
      intro q hq u w hj hd K hK
      have h14 : u 14 = .pointer (some ⟨a, 0, none⟩) := hd.get 0 (by kernel_rfl)
      clear hd
      simp only [h14] at hK
      go_simp
      exact hK.out (.pointer (some ⟨a, 0, none⟩)) rfl
    · show StepRQ _ _ _ _ _ _ _ _ _ -- 25
      unfold StepRQ
      intro q hq u w hj hd K hK
      have h24 : u 24 = .pointer (some ⟨a, 0, none⟩) := hd.get 10 (by kernel_rfl)
      clear hd
      simp only [h24] at hK
      go_simp
      exact hK.out (.pointer (some ⟨a, 3, none⟩)) rfl
  · intro u w hj hA K hK
    exact absurd hj.1 (by decide)

theorem dwiden_any (B a : Nat) (v : Value) (bs : List Nat) (d : Rc.D) (w : World) (h : Dcd w B a v bs d) (hC : d.C < d.R) (hn : d.n ≤ bs.length) (hl : bs.length ≤ 140737488355328) (hdig : Rc.Dig bs) : Calls Try.prog 77 #[.pointer (some ⟨a, 0, none⟩)] w fun e w' => (∃ d', Rc.widenD bs d = some d' ∧ e = .returned (.tuple #[]) ∧ Dcd w' B a v bs d' ∧ Chg (fun z => z = a) w w') ∨ (Rc.widenD bs d = none ∧ e = .panicked (gave 1) ∧ (∃ d', Dcd w' B a v bs d') ∧ Chg (fun z => z = a) w w') := by
  by_cases hR : d.R < 16777216
  · by_cases hn2 : d.n < bs.length
    · have e : Rc.widenD bs d = some ⟨d.n + 1, 256 * d.R, 256 * d.C + bs.getD d.n 0⟩ := by unfold Rc.widenD; rw [if_pos hR, if_pos hn2]
      exact (dwiden_yes B a v bs d w h hR hC hn2 hl hdig).mono fun x w' ⟨h1, h2, h3⟩ => .inl ⟨_, e, h1, h2, h3⟩
    · have e : Rc.widenD bs d = none := by unfold Rc.widenD; rw [if_pos hR, if_neg hn2]
      exact (dwiden_dry B a v bs d w h hR hC (by omega)).mono fun x w' ⟨h1, h2, h3⟩ => .inr ⟨e, h1, h2, h3⟩
  · have e : Rc.widenD bs d = some d := by unfold Rc.widenD; rw [if_neg hR]
    exact (dwiden_no B a v bs d w h (by omega)).mono fun x w' ⟨h1, h2⟩ => .inl ⟨_, e, h1, by rw [← h2]; exact h, by rw [← h2]; exact Chg.refl _ _⟩
end Go.Proofs.Ytibgjpifmpljkaa

/- The contracts of the program's decoder's halve, which may give up; of no statement by themselves. -/
namespace Go.Proofs.Ytibgjpifmpljkaa
open Go.RowKit
set_option linter.unusedVariables false

set_option maxHeartbeats 2000000 in
set_option maxRecDepth 100000 in
theorem dhalve_lo (B a : Nat) (v : Value) (bs : List Nat) (d : Rc.D) (w0 : World) (h : Dcd w0 B a v bs d) (hC : d.C < d.R) (hR : d.R ≤ 4294967295) (h1 : d.C < d.R / 2) : Calls Try.prog 79 #[.pointer (some ⟨a, 0, none⟩)] w0 fun e w' => e = .returned (.int .u32 0) ∧ Dcd w' B a v bs ⟨d.n, d.R / 2, d.C⟩ ∧ Chg (fun z => z = a) w0 w' := by
  have HH : Hid (Dcd w0 B a v bs d) := h
  obtain ⟨_, _, k2, _, fz⟩ := rcells4 h.blk
  have f2 := fz 2
  obtain ⟨r, hr⟩ : ∃ r : Int, r = (d.R : Int) := ⟨_, rfl⟩
  obtain ⟨c, hc⟩ : ∃ c : Int, c = (d.C : Int) := ⟨_, rfl⟩
  obtain ⟨m, hm⟩ : ∃ m : Int, m = ((d.R / 2 : Nat) : Int) := ⟨_, rfl⟩
  have r0 : 0 ≤ r := by omega
  have c0 : 0 ≤ c := by omega
  have m0 : 0 ≤ m := by omega
  have c9 : c ≤ 4294967295 := by omega
  have hq : r / 2 = m := by omega
  have hm9 : m % 4294967296 = m := by omega
  have hq2 : r.tdiv 2 = m := by rw [Int.tdiv_eq_ediv_of_nonneg r0]; exact hq
  have HM : Hid (m = ((d.R / 2 : Nat) : Int)) := hm
  have HC0 : Hid (c = (d.C : Int)) := hc
  obtain ⟨p1, q1⟩ := h.put 2 (.int .u32 m) ⟨d.n, d.R / 2, d.C⟩ (by simp; omega)
  have HP : Hid (Dcd (w0.setCell ⟨a, 2, none⟩ (.int .u32 m)) B a v bs ⟨d.n, d.R / 2, d.C⟩) := p1
  have HQ : Hid (Chg (fun z => z = a) w0 (w0.setCell ⟨a, 2, none⟩ (.int .u32 m))) := q1
  rw [← hr] at k2
  have x1 : decide (m ≤ c) = false := by simp; omega
  have x2 : ¬ m ≤ c := by omega
  clear h1
  clear p1 q1 h fz hr hc hm hR hC
  go_enter Try.func79, Try.ntmps79
  go_upto_region 3 with fail
  clear k2 f2
  generalize w0.setCell ⟨a, 2, none⟩ (.int .u32 m) = w1 at *
  have g2 : w1.cell? ⟨a, 2, none⟩ = some (.int .u32 m) := by have := (rcells4 HP.out.blk).2.2.1; rw [HM.out]; exact this
  have g3 : w1.cell? ⟨a, 3, none⟩ = some (.int .u32 c) := by have := (rcells4 HP.out.blk).2.2.2.1; rw [HC0.out]; exact this
  go_quiet (fail)
  rename_i nq
  go_upto_region 6 with fail
  go_quiet (fail)
  rename_i nq2
  go_wp2
  go_ret
  exact ⟨rfl, HP.out.new (chg_drewN _ _), HQ.out.trans (chg_drewN _ _) (fun _ f => f.elim)⟩

set_option maxHeartbeats 2000000 in
set_option maxRecDepth 100000 in
theorem dhalve_hi (B a : Nat) (v : Value) (bs : List Nat) (d : Rc.D) (w0 : World) (h : Dcd w0 B a v bs d) (hC : d.C < d.R) (hR : d.R ≤ 4294967295) (h1 : d.R / 2 ≤ d.C) (h2 : d.C - d.R / 2 < d.R / 2) : Calls Try.prog 79 #[.pointer (some ⟨a, 0, none⟩)] w0 fun e w' => e = .returned (.int .u32 1) ∧ Dcd w' B a v bs ⟨d.n, d.R / 2, d.C - d.R / 2⟩ ∧ Chg (fun z => z = a) w0 w' := by
  have HH : Hid (Dcd w0 B a v bs d) := h
  obtain ⟨_, _, k2, _, fz⟩ := rcells4 h.blk
  have f2 := fz 2
  obtain ⟨r, hr⟩ : ∃ r : Int, r = (d.R : Int) := ⟨_, rfl⟩
  obtain ⟨c, hc⟩ : ∃ c : Int, c = (d.C : Int) := ⟨_, rfl⟩
  obtain ⟨m, hm⟩ : ∃ m : Int, m = ((d.R / 2 : Nat) : Int) := ⟨_, rfl⟩
  have r0 : 0 ≤ r := by omega
  have c0 : 0 ≤ c := by omega
  have m0 : 0 ≤ m := by omega
  have c9 : c ≤ 4294967295 := by omega
  have hq : r / 2 = m := by omega
  have hm9 : m % 4294967296 = m := by omega
  have hq2 : r.tdiv 2 = m := by rw [Int.tdiv_eq_ediv_of_nonneg r0]; exact hq
  have HM : Hid (m = ((d.R / 2 : Nat) : Int)) := hm
  have HC0 : Hid (c = (d.C : Int)) := hc
  obtain ⟨p1, q1⟩ := h.put 2 (.int .u32 m) ⟨d.n, d.R / 2, d.C⟩ (by simp; omega)
  have HP : Hid (Dcd (w0.setCell ⟨a, 2, none⟩ (.int .u32 m)) B a v bs ⟨d.n, d.R / 2, d.C⟩) := p1
  have HQ : Hid (Chg (fun z => z = a) w0 (w0.setCell ⟨a, 2, none⟩ (.int .u32 m))) := q1
  rw [← hr] at k2
  have x1 : decide (m ≤ c) = true := by simp; omega
  have x2 : m ≤ c := by omega
  have x3 : decide (m ≤ c - m) = false := by simp; omega
  have x4 : ¬ m ≤ c - m := by omega
  clear h1 h2
  clear p1 q1 h fz hr hc hm hR hC
  go_enter Try.func79, Try.ntmps79
  go_upto_region 3 with fail
  clear k2 f2
  generalize w0.setCell ⟨a, 2, none⟩ (.int .u32 m) = w1 at *
  have g2 : w1.cell? ⟨a, 2, none⟩ = some (.int .u32 m) := by have := (rcells4 HP.out.blk).2.2.1; rw [HM.out]; exact this
  have g3 : w1.cell? ⟨a, 3, none⟩ = some (.int .u32 c) := by have := (rcells4 HP.out.blk).2.2.2.1; rw [HC0.out]; exact this
  go_quiet (fail)
  rename_i nq
  go_upto_region 4 with fail
  have HP2 : Hid (Dcd (w1.drewN nq) B a v bs ⟨d.n, d.R / 2, d.C⟩) := HP.out.new (chg_drewN _ _)
  have HQ2 : Hid (Chg (fun z => z = a) w0 (w1.drewN nq)) := HQ.out.trans (chg_drewN _ _) (fun _ f => f.elim)
  have g2 : (w1.drewN nq).cell? ⟨a, 2, none⟩ = some (.int .u32 m) := cell_chg g2 (chg_drewN _ _)
  have g3 : (w1.drewN nq).cell? ⟨a, 3, none⟩ = some (.int .u32 c) := cell_chg g3 (chg_drewN _ _)
  generalize w1.drewN nq = w2 at *
  refine wp_region_phaseQ (mk := fun u => #[_, _, _, _, _, _, _, _, _, _, _, _, _, _, _, _, _, _, _, _, u 20, u 21, u 22, u 23, u 24, u 25, u 26, u 27, u 28, u 29, u 30, _, _, _, _, _, _, _, _, _, _, _]) (G := lookG [(20, .pointer (some ⟨a, 0, none⟩)), (21, .pointer (some ⟨a, 0, none⟩)), (22, .pointer (some ⟨a, 3, none⟩)), (23, .int .u32 c), (24, .pointer (some ⟨a, 0, none⟩)), (25, .pointer (some ⟨a, 0, none⟩)), (26, .pointer (some ⟨a, 2, none⟩)), (27, .int .u32 m), (28, .int .u32 (c - m)), (29, .pointer (some ⟨a, 0, none⟩)), (30, .pointer (some ⟨a, 3, none⟩))]) (J := fun _ _ w => Chg (fun _ => False) w2 w) [] (fun i =>  0) ([]) (fun _ => undef) rfl (by kernel_rfl) 11 _ rfl rfl (by kernel_rfl) (by kernel_rfl) (by kernel_rfl) (by decide) ?_ ?_ ?_ (by kernel_rfl) ?_ ?_
  · repeat (refine ⟨fun _ _ => rfl, ?_⟩)
    exact trivial
  · exact fun q u u2 w _ h => h
  · exact (Chg.refl _ _).drew
  · refine ⟨?_, ?_, ?_, ?_, ?_, ?_, ?_, ?_, ?_, ?_, ?_, trivial⟩
    · show StepRQ _ _ _ _ _ _ _ _ _ -- 20
      unfold StepRQ
      intro q hq u w hj hd K hK
      clear hd
      go_simp
      exact hK.out (.pointer (some ⟨a, 0, none⟩)) rfl
    · show StepRQ _ _ _ _ _ _ _ _ _ -- 21
      unfold StepRQ
      intro q hq u w hj hd K hK
      have h20 : u 20 = .pointer (some ⟨a, 0, none⟩) := hd.get 0 (by kernel_rfl)
      clear hd
      simp only [h20] at hK
      go_simp
      exact hK.out (.pointer (some ⟨a, 0, none⟩)) rfl
    · show StepRQ _ _ _ _ _ _ _ _ _ -- 22
      unfold StepRQ
      intro q hq u w hj hd K hK
      have h21 : u 21 = .pointer (some ⟨a, 0, none⟩) := hd.get 1 (by kernel_rfl)
      clear hd
      simp only [h21] at hK
      go_simp
      exact hK.out (.pointer (some ⟨a, 3, none⟩)) rfl
    · show StepRQ _ _ _ _ _ _ _ _ _ -- 23
      unfold StepRQ
      intro q hq u w hj hd K hK
      have h22 : u 22 = .pointer (some ⟨a, 3, none⟩) := hd.get 2 (by kernel_rfl)
      clear hd
      simp only [h22] at hK
      have hcell := cell_chg g3 hj
      go_simp
      exact hK.out _ rfl
    · show StepRQ _ _ _ _ _ _ _ _ _ -- 24
      unfold StepRQ
      intro q hq u w hj hd K hK
      clear hd
      go_simp
      exact hK.out (.pointer (some ⟨a, 0, none⟩)) rfl
    · show StepRQ _ _ _ _ _ _ _ _ _ -- 25
      unfold StepRQ
      intro q hq u w hj hd K hK
      have h24 : u 24 = .pointer (some ⟨a, 0, none⟩) := hd.get 4 (by kernel_rfl)
      clear hd
      simp only [h24] at hK
      go_simp
      exact hK.out (.pointer (some ⟨a, 0, none⟩)) rfl
    · show StepRQ _ _ _ _ _ _ _ _ _ -- 26
      unfold StepRQ
      intro q hq u w hj hd K hK
      have h25 : u 25 = .pointer (some ⟨a, 0, none⟩) := hd.get 5 (by kernel_rfl)
      clear hd
      simp only [h25] at hK
      go_simp
      exact hK.out (.pointer (some ⟨a, 2, none⟩)) rfl
    · show StepRQ _ _ _ _ _ _ _ _ _ -- 27
      unfold StepRQ
      intro q hq u w hj hd K hK
      have h26 : u 26 = .pointer (some ⟨a, 2, none⟩) := hd.get 6 (by kernel_rfl)
      clear hd
      simp only [h26] at hK
      have hcell := cell_chg g2 hj
      go_simp
      exact hK.out _ rfl
    · show StepRQ _ _ _ _ _ _ _ _ _ -- 28
      unfold StepRQ
      intro q hq u w hj hd K hK
      have h23 : u 23 = .int .u32 c := hd.get 3 (by kernel_rfl)
      have h27 : u 27 = .int .u32 m := hd.get 7 (by kernel_rfl)
      clear hd
      simp only [h23, h27] at hK
      go_simp
      first | exact hK.out (.int .u32 (c - m)) rfl | (rw [show IntKind.u32.wrap (c - m) = c - m by simp [IntKind.wrap, IntKind.signed, IntKind.bits]; omega]; exact hK.out (.int .u32 (c - m)) rfl)
    · show StepRQ _ _ _ _ _ _ _ _ _ -- 29
      unfold StepRQ
      intro q hq u w hj hd K hK
      have h20 : u 20 = .pointer (some ⟨a, 0, none⟩) := hd.get 0 (by kernel_rfl)
      clear hd
      simp only [h20] at hK
      go_simp
      exact hK.out (.pointer (some ⟨a, 0, none⟩)) rfl
    · show StepRQ _ _ _ _ _ _ _ _ _ -- 30
      unfold StepRQ
      intro q hq u w hj hd K hK
      have h29 : u 29 = .pointer (some ⟨a, 0, none⟩) := hd.get 9 (by kernel_rfl)
      clear hd
      simp only [h29] at hK
      go_simp
      exact hK.out (.pointer (some ⟨a, 3, none⟩)) rfl
  · intro u w hj hA K hK
    have e28 : u 28 = .int .u32 (c - m) := hA.at 28 (by kernel_rfl)
    have e30 : u 30 = .pointer (some ⟨a, 3, none⟩) := hA.at 30 (by kernel_rfl)
    clear hA
    have hD := HP2.out.new hj
    have fg3 := (rcells4 hD.blk).2.2.2.2 3
    have hg3 := (rcells4 hD.blk).2.2.2.1
    obtain ⟨hD2, hc2⟩ := hD.put 3 (.int .u32 (c - m)) ⟨d.n, d.R / 2, d.C - d.R / 2⟩ (by have := HM.out; have := HC0.out; simp; omega)
    have HD2 : Hid (Dcd (w.setCell ⟨a, 3, none⟩ (.int .u32 (c - m))) B a v bs ⟨d.n, d.R / 2, d.C - d.R / 2⟩) := hD2
    have HC2 : Hid (Chg (fun z => z = a) w0 (w.setCell ⟨a, 3, none⟩ (.int .u32 (c - m)))) := (HQ2.out.trans hj (fun _ f => f.elim)).trans hc2 (fun _ f => .inl f)
    clear hD hD2 hc2 HP2 HQ2 HP HQ g2 g3
    go_simp
    refine hK.out _ _ ?_
    generalize w.setCell ⟨a, 3, none⟩ (.int .u32 (c - m)) = w3 at *
    have q2 : w3.cell? ⟨a, 2, none⟩ = some (.int .u32 m) := by have := (rcells4 HD2.out.blk).2.2.1; rw [HM.out]; exact this
    have q3 : w3.cell? ⟨a, 3, none⟩ = some (.int .u32 (c - m)) := by have h9 := (rcells4 HD2.out.blk).2.2.2.1; rw [show c - m = ((d.C - d.R / 2 : Nat) : Int) by have := HM.out; have := HC0.out; omega]; exact h9
    go_upto_region 6 with fail
    go_quiet (fail)
    go_wp2
    go_ret
    exact ⟨rfl, HD2.out.new (chg_drewN _ _), HC2.out.trans (chg_drewN _ _) (fun _ f => f.elim)⟩

set_option maxHeartbeats 2000000 in
set_option maxRecDepth 100000 in
theorem dhalve_bad (B a : Nat) (v : Value) (bs : List Nat) (d : Rc.D) (w0 : World) (h : Dcd w0 B a v bs d) (hC : d.C < d.R) (hR : d.R ≤ 4294967295) (h1 : d.R / 2 ≤ d.C) (h2 : d.R / 2 ≤ d.C - d.R / 2) : Calls Try.prog 79 #[.pointer (some ⟨a, 0, none⟩)] w0 fun e w' => e = .panicked (gave 2) ∧ (∃ d', Dcd w' B a v bs d') ∧ Chg (fun z => z = a) w0 w' := by
  have HH : Hid (Dcd w0 B a v bs d) := h
  obtain ⟨_, _, k2, _, fz⟩ := rcells4 h.blk
  have f2 := fz 2
  obtain ⟨r, hr⟩ : ∃ r : Int, r = (d.R : Int) := ⟨_, rfl⟩
  obtain ⟨c, hc⟩ : ∃ c : Int, c = (d.C : Int) := ⟨_, rfl⟩
  obtain ⟨m, hm⟩ : ∃ m : Int, m = ((d.R / 2 : Nat) : Int) := ⟨_, rfl⟩
  have r0 : 0 ≤ r := by omega
  have c0 : 0 ≤ c := by omega
  have m0 : 0 ≤ m := by omega
  have c9 : c ≤ 4294967295 := by omega
  have hq : r / 2 = m := by omega
  have hm9 : m % 4294967296 = m := by omega
  have hq2 : r.tdiv 2 = m := by rw [Int.tdiv_eq_ediv_of_nonneg r0]; exact hq
  have HM : Hid (m = ((d.R / 2 : Nat) : Int)) := hm
  have HC0 : Hid (c = (d.C : Int)) := hc
  obtain ⟨p1, q1⟩ := h.put 2 (.int .u32 m) ⟨d.n, d.R / 2, d.C⟩ (by simp; omega)
  have HP : Hid (Dcd (w0.setCell ⟨a, 2, none⟩ (.int .u32 m)) B a v bs ⟨d.n, d.R / 2, d.C⟩) := p1
  have HQ : Hid (Chg (fun z => z = a) w0 (w0.setCell ⟨a, 2, none⟩ (.int .u32 m))) := q1
  rw [← hr] at k2
  have x1 : decide (m ≤ c) = true := by simp; omega
  have x2 : m ≤ c := by omega
  have x3 : decide (m ≤ c - m) = true := by simp; omega
  have x4 : m ≤ c - m := by omega
  clear h1 h2
  clear p1 q1 h fz hr hc hm hR hC
  go_enter Try.func79, Try.ntmps79
  go_upto_region 3 with fail
  clear k2 f2
  generalize w0.setCell ⟨a, 2, none⟩ (.int .u32 m) = w1 at *
  have g2 : w1.cell? ⟨a, 2, none⟩ = some (.int .u32 m) := by have := (rcells4 HP.out.blk).2.2.1; rw [HM.out]; exact this
  have g3 : w1.cell? ⟨a, 3, none⟩ = some (.int .u32 c) := by have := (rcells4 HP.out.blk).2.2.2.1; rw [HC0.out]; exact this
  go_quiet (fail)
  rename_i nq
  go_upto_region 4 with fail
  have HP2 : Hid (Dcd (w1.drewN nq) B a v bs ⟨d.n, d.R / 2, d.C⟩) := HP.out.new (chg_drewN _ _)
  have HQ2 : Hid (Chg (fun z => z = a) w0 (w1.drewN nq)) := HQ.out.trans (chg_drewN _ _) (fun _ f => f.elim)
  have g2 : (w1.drewN nq).cell? ⟨a, 2, none⟩ = some (.int .u32 m) := cell_chg g2 (chg_drewN _ _)
  have g3 : (w1.drewN nq).cell? ⟨a, 3, none⟩ = some (.int .u32 c) := cell_chg g3 (chg_drewN _ _)
  generalize w1.drewN nq = w2 at *
  refine wp_region_phaseQ (mk := fun u => #[_, _, _, _, _, _, _, _, _, _, _, _, _, _, _, _, _, _, _, _, u 20, u 21, u 22, u 23, u 24, u 25, u 26, u 27, u 28, u 29, u 30, _, _, _, _, _, _, _, _, _, _, _]) (G := lookG [(20, .pointer (some ⟨a, 0, none⟩)), (21, .pointer (some ⟨a, 0, none⟩)), (22, .pointer (some ⟨a, 3, none⟩)), (23, .int .u32 c), (24, .pointer (some ⟨a, 0, none⟩)), (25, .pointer (some ⟨a, 0, none⟩)), (26, .pointer (some ⟨a, 2, none⟩)), (27, .int .u32 m), (28, .int .u32 (c - m)), (29, .pointer (some ⟨a, 0, none⟩)), (30, .pointer (some ⟨a, 3, none⟩))]) (J := fun _ _ w => Chg (fun _ => False) w2 w) [] (fun i =>  0) ([]) (fun _ => undef) rfl (by kernel_rfl) 11 _ rfl rfl (by kernel_rfl) (by kernel_rfl) (by kernel_rfl) (by decide) ?_ ?_ ?_ (by kernel_rfl) ?_ ?_
  · repeat (refine ⟨fun _ _ => rfl, ?_⟩)
    exact trivial
  · exact fun q u u2 w _ h => h
  · exact (Chg.refl _ _).drew
  · refine ⟨?_, ?_, ?_, ?_, ?_, ?_, ?_, ?_, ?_, ?_, ?_, trivial⟩
    · show StepRQ _ _ _ _ _ _ _ _ _ -- 20
      unfold StepRQ
      intro q hq u w hj hd K hK
      clear hd
      go_simp
      exact hK.out (.pointer (some ⟨a, 0, none⟩)) rfl
    · show StepRQ _ _ _ _ _ _ _ _ _ -- 21
      unfold StepRQ
      intro q hq u w hj hd K hK
      have h20 : u 20 = .pointer (some ⟨a, 0, none⟩) := hd.get 0 (by kernel_rfl)
      clear hd
      simp only [h20] at hK
      go_simp
      exact hK.out (.pointer (some ⟨a, 0, none⟩)) rfl
    · show StepRQ _ _ _ _ _ _ _ _ _ -- 22
      unfold StepRQ
      intro q hq u w hj hd K hK
      have h21 : u 21 = .pointer (some ⟨a, 0, none⟩) := hd.get 1 (by kernel_rfl)
      clear hd
      simp only [h21] at hK
      go_simp
      exact hK.out (.pointer (some ⟨a, 3, none⟩)) rfl
    · show StepRQ _ _ _ _ _ _ _ _ _ -- 23
      unfold StepRQ
      intro q hq u w hj hd K hK
      have h22 : u 22 = .pointer (some ⟨a, 3, none⟩) := hd.get 2 (by kernel_rfl)
      clear hd
      simp only [h22] at hK
      have hcell := cell_chg g3 hj
      go_simp
      exact hK.out _ rfl
    · show StepRQ _ _ _ _ _ _ _ _ _ -- 24
      unfold StepRQ
      intro q hq u w hj hd K hK
      clear hd
      go_simp
      exact hK.out (.pointer (some ⟨a, 0, none⟩)) rfl
    · show StepRQ _ _ _ _ _ _ _ _ _ -- 25
      unfold StepRQ
      intro q hq u w hj hd K hK
      have h24 : u 24 = .pointer (some ⟨a, 0, none⟩) := hd.get 4 (by kernel_rfl)
      clear hd
      simp only [h24] at hK
      go_simp
      exact hK.out (.pointer (some ⟨a, 0, none⟩)) rfl
    · show StepRQ _ _ _ _ _ _ _ _ _ -- 26
      unfold StepRQ
      intro q hq u w hj hd K hK
      have h25 : u 25 = .pointer (some ⟨a, 0, none⟩) := hd.get 5 (by kernel_rfl)
      clear hd
      simp only [h25] at hK
      go_simp
      exact hK.out (.pointer (some ⟨a, 2, none⟩)) rfl
    · show StepRQ _ _ _ _ _ _ _ _ _ -- 27
      unfold StepRQ
      intro q hq u w hj hd K hK
      have h26 : u 26 = .pointer (some ⟨a, 2, none⟩) := hd.get 6 (by kernel_rfl)
      clear hd
      simp only [h26] at hK
      have hcell := cell_chg g2 hj
      go_simp
      exact hK.out _ rfl
    · show StepRQ _ _ _ _ _ _ _ _ _ -- 28
      unfold StepRQ
      intro q hq u w hj hd K hK
      have h23 : u 23 = .int .u32 c := hd.get 3 (by kernel_rfl)
      have h27 : u 27 = .int .u32 m := hd.get 7 (by kernel_rfl)
      clear hd
      simp only [h23, h27] at hK
      go_simp
      first | exact hK.out (.int .u32 (c - m)) rfl | (rw [show IntKind.u32.wrap (c - m) = c - m by simp [IntKind.wrap, IntKind.signed, IntKind.bits]; omega]; exact hK.out (.int .u32 (c - m)) rfl)
    · show StepRQ _ _ _ _ _ _ _ _ _ -- 29
      unfold StepRQ
      intro q hq u w hj hd K hK
      have h20 : u 20 = .pointer (some ⟨a, 0, none⟩) := hd.get 0 (by kernel_rfl)
      clear hd
      simp only [h20] at hK
      go_simp
      exact hK.out (.pointer (some ⟨a, 0, none⟩)) rfl
    · show StepRQ _ _ _ _ _ _ _ _ _ -- 30
      unfold StepRQ
      intro q hq u w hj hd K hK
      have h29 : u 29 = .pointer (some ⟨a, 0, none⟩) := hd.get 9 (by kernel_rfl)
      clear hd
      simp only [h29] at hK
      go_simp
      exact hK.out (.pointer (some ⟨a, 3, none⟩)) rfl
  · intro u w hj hA K hK
    have e28 : u 28 = .int .u32 (c - m) := hA.at 28 (by kernel_rfl)
    have e30 : u 30 = .pointer (some ⟨a, 3, none⟩) := hA.at 30 (by kernel_rfl)
    clear hA
    have hD := HP2.out.new hj
    have fg3 := (rcells4 hD.blk).2.2.2.2 3
    have hg3 := (rcells4 hD.blk).2.2.2.1
    obtain ⟨hD2, hc2⟩ := hD.put 3 (.int .u32 (c - m)) ⟨d.n, d.R / 2, d.C - d.R / 2⟩ (by have := HM.out; have := HC0.out; simp; omega)
    have HD2 : Hid (Dcd (w.setCell ⟨a, 3, none⟩ (.int .u32 (c - m))) B a v bs ⟨d.n, d.R / 2, d.C - d.R / 2⟩) := hD2
    have HC2 : Hid (Chg (fun z => z = a) w0 (w.setCell ⟨a, 3, none⟩ (.int .u32 (c - m)))) := (HQ2.out.trans hj (fun _ f => f.elim)).trans hc2 (fun _ f => .inl f)
    clear hD hD2 hc2 HP2 HQ2 HP HQ g2 g3
    go_simp
    refine hK.out _ _ ?_
    generalize w.setCell ⟨a, 3, none⟩ (.int .u32 (c - m)) = w3 at *
    have q2 : w3.cell? ⟨a, 2, none⟩ = some (.int .u32 m) := by have := (rcells4 HD2.out.blk).2.2.1; rw [HM.out]; exact this
    have q3 : w3.cell? ⟨a, 3, none⟩ = some (.int .u32 (c - m)) := by have h9 := (rcells4 HD2.out.blk).2.2.2.1; rw [show c - m = ((d.C - d.R / 2 : Nat) : Int) by have := HM.out; have := HC0.out; omega]; exact h9
    go_upto_region 6 with fail
    go_quiet (fail)
    go_wp2
    exact ⟨rfl, rfl, ⟨_, HD2.out.new (chg_drewN _ _)⟩, HC2.out.trans (chg_drewN _ _) (fun _ f => f.elim)⟩

theorem dhalve_any (B a : Nat) (v : Value) (bs : List Nat) (d : Rc.D) (w : World) (h : Dcd w B a v bs d) (hC : d.C < d.R) (hR : d.R ≤ 4294967295) : Calls Try.prog 79 #[.pointer (some ⟨a, 0, none⟩)] w fun e w' => (¬ (Rc.hpartD d).R ≤ (Rc.hpartD d).C ∧ e = .returned (.int .u32 (bt (decide (d.R / 2 ≤ d.C)))) ∧ Dcd w' B a v bs (Rc.hpartD d) ∧ Chg (fun z => z = a) w w') ∨ ((Rc.hpartD d).R ≤ (Rc.hpartD d).C ∧ e = .panicked (gave 2) ∧ (∃ d', Dcd w' B a v bs d') ∧ Chg (fun z => z = a) w w') := by
  by_cases h1 : d.R / 2 ≤ d.C
  · have e1 : Rc.hpartD d = ⟨d.n, d.R / 2, d.C - d.R / 2⟩ := by unfold Rc.hpartD; rw [if_pos h1]
    rw [e1, show decide (d.R / 2 ≤ d.C) = true from decide_eq_true h1]
    by_cases h2 : d.C - d.R / 2 < d.R / 2
    · exact (dhalve_hi B a v bs d w h hC hR h1 h2).mono fun x w' ⟨k1, k2, k3⟩ => .inl ⟨by show ¬ d.R / 2 ≤ d.C - d.R / 2; omega, k1, k2, k3⟩
    · exact (dhalve_bad B a v bs d w h hC hR h1 (by omega)).mono fun x w' ⟨k1, k2, k3⟩ => .inr ⟨by show d.R / 2 ≤ d.C - d.R / 2; omega, k1, k2, k3⟩
  · have e1 : Rc.hpartD d = ⟨d.n, d.R / 2, d.C⟩ := by unfold Rc.hpartD; rw [if_neg h1]
    rw [e1, show decide (d.R / 2 ≤ d.C) = false from decide_eq_false h1]
    exact (dhalve_lo B a v bs d w h hC hR (by omega)).mono fun x w' ⟨k1, k2, k3⟩ => .inl ⟨h1, k1, k2, k3⟩
end Go.Proofs.Ytibgjpifmpljkaa

/- The calls that Bit and Direct defer: they set back what was given up; of no statement by themselves. -/
namespace Go.Proofs.Ytibgjpifmpljkaa
open Go.RowKit
set_option linter.unusedVariables false

theorem set4 {w : World} {a : Nat} {x0 x1 x2 x3 y0 y1 y2 y3 : Value} {t : TypeId} (h : w.heap[a]? = some (.cells #[x0, x1, x2, x3] t (0, 0))) :
    ((((w.setCell ⟨a, 0, none⟩ y0).setCell ⟨a, 1, none⟩ y1).setCell ⟨a, 2, none⟩ y2).setCell ⟨a, 3, none⟩ y3).heap[a]? = some (.cells #[y0, y1, y2, y3] t (0, 0)) ∧ Chg (fun z => z = a) w ((((w.setCell ⟨a, 0, none⟩ y0).setCell ⟨a, 1, none⟩ y1).setCell ⟨a, 2, none⟩ y2).setCell ⟨a, 3, none⟩ y3) := by
  have c1 : Chg (fun z => z = a) w ((((w.setCell ⟨a, 0, none⟩ y0).setCell ⟨a, 1, none⟩ y1).setCell ⟨a, 2, none⟩ y2).setCell ⟨a, 3, none⟩ y3) := ((((Chg.refl (fun z => z = a) w).setCell (p := ⟨a, 0, none⟩) (.inl rfl) _).setCell (p := ⟨a, 1, none⟩) (.inl rfl) _).setCell (p := ⟨a, 2, none⟩) (.inl rfl) _).setCell (p := ⟨a, 3, none⟩) (.inl rfl) _
  have b1 := blk_setk (l := [x0, x1, x2, x3]) h 0 y0
  have b2 := blk_setk (l := [y0, x1, x2, x3]) b1 1 y1
  have b3 := blk_setk (l := [y0, y1, x2, x3]) b2 2 y2
  have b4 := blk_setk (l := [y0, y1, y2, x3]) b3 3 y3
  exact ⟨b4, c1⟩
theorem blk_other {w : World} {a g k : Nat} {o : Obj} {y : Value} (h : w.heap[g]? = some o) (hne : g ≠ a) : (w.setCell ⟨a, k, none⟩ y).heap[g]? = some o := by
  rw [Below.heap_setCell _ _ _ _ hne, h]
/-- What Bit and Direct have put aside: what the decoder was, where it lies, their two results. -/
structure Aside (w : World) (kd : TypeId) (r0 : Value) (a p9 p3 p6 p7 : Nat) (y0 y1 y2 y3 : Value) (e0 : Int) : Prop where
  was : w.heap[p9]? = some (.cells #[y0, y1, y2, y3] 91 (0, 0))
  at_ : w.heap[p3]? = some (.cells #[.pointer (some ⟨a, 0, none⟩)] 51 (0, 0))
  val : w.heap[p6]? = some (.cells #[r0] kd (0, 0))
  err : w.heap[p7]? = some (.cells #[.int .i64 e0] 24 (0, 0))
  n9 : p9 ≠ a ∧ p9 ≠ p6 ∧ p9 ≠ p7
  n3 : p3 ≠ a ∧ p3 ≠ p6 ∧ p3 ≠ p7
  n6 : p6 ≠ a ∧ p6 ≠ p7
  n7 : p7 ≠ a
theorem Aside.keep {w w' : World} {S : Nat → Prop} {kd : TypeId} {r0 : Value} {a p9 p3 p6 p7 : Nat} {y0 y1 y2 y3 : Value} {e0 : Int} (h : Aside w kd r0 a p9 p3 p6 p7 y0 y1 y2 y3 e0) (hc : Chg S w w') (h9 : ¬ S p9) (h3 : ¬ S p3) (h6 : ¬ S p6) (h7 : ¬ S p7) : Aside w' kd r0 a p9 p3 p6 p7 y0 y1 y2 y3 e0 :=
  ⟨blk_keep h.was hc h9, blk_keep h.at_ hc h3, blk_keep h.val hc h6, blk_keep h.err hc h7, h.n9, h.n3, h.n6, h.n7⟩
theorem Aside.new {w w' : World} {kd : TypeId} {r0 : Value} {a p9 p3 p6 p7 : Nat} {y0 y1 y2 y3 : Value} {e0 : Int} (h : Aside w kd r0 a p9 p3 p6 p7 y0 y1 y2 y3 e0) (hc : Chg (fun _ => False) w w') : Aside w' kd r0 a p9 p3 p6 p7 y0 y1 y2 y3 e0 := h.keep hc (fun f => f) (fun f => f) (fun f => f) (fun f => f)
theorem Aside.deed {w w' : World} {kd : TypeId} {r0 : Value} {a p9 p3 p6 p7 : Nat} {y0 y1 y2 y3 : Value} {e0 : Int} (h : Aside w kd r0 a p9 p3 p6 p7 y0 y1 y2 y3 e0) (hc : Chg (fun z => z = a) w w') : Aside w' kd r0 a p9 p3 p6 p7 y0 y1 y2 y3 e0 := h.keep hc h.n9.1 h.n3.1 h.n6.1 h.n7
theorem Aside.setV {w : World} {kd : TypeId} {r0 : Value} {a p9 p3 p6 p7 : Nat} {y0 y1 y2 y3 : Value} {e0 : Int} (h : Aside w kd r0 a p9 p3 p6 p7 y0 y1 y2 y3 e0) (r : Value) : Aside (w.setCell ⟨p6, 0, none⟩ r) kd r a p9 p3 p6 p7 y0 y1 y2 y3 e0 ∧ Chg (fun z => z = p6) w (w.setCell ⟨p6, 0, none⟩ r) :=
  ⟨⟨blk_other h.was h.n9.2.1, blk_other h.at_ h.n3.2.1, blk_setk (l := [r0]) h.val 0 r, blk_other h.err (Ne.symm h.n6.2), h.n9, h.n3, h.n6, h.n7⟩, (Chg.refl (fun z => z = p6) w).setCell (p := ⟨p6, 0, none⟩) (.inl rfl) _⟩
theorem Aside.setE {w : World} {kd : TypeId} {r0 : Value} {a p9 p3 p6 p7 : Nat} {y0 y1 y2 y3 : Value} {e0 : Int} (h : Aside w kd r0 a p9 p3 p6 p7 y0 y1 y2 y3 e0) (e : Int) : Aside (w.setCell ⟨p7, 0, none⟩ (.int .i64 e)) kd r0 a p9 p3 p6 p7 y0 y1 y2 y3 e ∧ Chg (fun z => z = p7) w (w.setCell ⟨p7, 0, none⟩ (.int .i64 e)) :=
  ⟨⟨blk_other h.was h.n9.2.2, blk_other h.at_ h.n3.2.2, blk_other h.val h.n6.2, blk_setk (l := [.int .i64 e0]) h.err 0 (.int .i64 e), h.n9, h.n3, h.n6, h.n7⟩, (Chg.refl (fun z => z = p7) w).setCell (p := ⟨p7, 0, none⟩) (.inl rfl) _⟩
theorem fr00 {w : World} {a : Nat} {x : Value} {t : TypeId} (h : w.heap[a]? = some (.cells #[x] t (0, 0))) : w.frozen? ⟨a, 0, none⟩ = false := by simp [World.frozen?, h]

set_option maxHeartbeats 1000000 in
set_option maxRecDepth 100000 in
theorem bcatch_idle (p9 p3 p6 p7 : Value) (w : World) : CallsD Try.prog 74 #[p9, p3, p6, p7] .returning w fun e u' w' => e = .returned (.tuple #[]) ∧ u' = .returning ∧ w' = w := by
  refine callsD_of_wpS Try.func74 rfl fun c₀ cs hu => ?_
  apply wpS_seq
  apply wpS_region
  simp [wpOpsS, go_sem, recoverD, hu, Try.ntmps74, Exit.thenS]
  refine wpS_of_wp ?_
  go_wp2
  cases c₀
  simp_all [bodyPostS, results, Try.results74]

set_option maxHeartbeats 2000000 in
set_option maxRecDepth 100000 in
theorem bcatch_gave (a p9 p3 p6 p7 : Nat) (x0 x1 x2 x3 r0 : Value) (ad : Option Addr) (L cap : Nat) (n1 n2 n3 : Int) (e0 e : Int) (w : World) (hA : Aside w 3 r0 a p9 p3 p6 p7 (.slice ad L cap) (.int .i64 n1) (.int .u32 n2) (.int .u32 n3) e0) (hb : w.heap[a]? = some (.cells #[x0, x1, x2, x3] 91 (0, 0))) :
    CallsD Try.prog 74 #[.pointer (some ⟨p9, 0, none⟩), .pointer (some ⟨p3, 0, none⟩), .pointer (some ⟨p6, 0, none⟩), .pointer (some ⟨p7, 0, none⟩)] (.panicking (gave e)) w fun x u' w' => x = .returned (.tuple #[]) ∧ u' = .panicking [{ v := .iface 24 (.int .i64 e), recovered := true }] ∧ Aside w' 3 (.int .i64 0) a p9 p3 p6 p7 (.slice ad L cap) (.int .i64 n1) (.int .u32 n2) (.int .u32 n3) e ∧ w'.heap[a]? = some (.cells #[.slice ad L cap, .int .i64 n1, .int .u32 n2, .int .u32 n3] 91 (0, 0)) ∧ Chg (fun z => z = a ∨ z = p6 ∨ z = p7) w w' := by
  obtain ⟨hs, hc⟩ := set4 (y0 := .slice ad L cap) (y1 := .int .i64 n1) (y2 := .int .u32 n2) (y3 := .int .u32 n3) hb
  have hA1 := hA.deed hc
  obtain ⟨hA2, hc2⟩ := hA1.setV ((.int .i64 0))
  obtain ⟨hA3, hc3⟩ := hA2.setE e
  have HA : Hid (Aside _ 3 (.int .i64 0) a p9 p3 p6 p7 (.slice ad L cap) (.int .i64 n1) (.int .u32 n2) (.int .u32 n3) e) := hA3
  have HB : Hid _ := blk_other (k := 0) (y := .int .i64 e) (blk_other (k := 0) (y := (.int .i64 0)) hs (Ne.symm hA.n6.1)) (Ne.symm hA.n7)
  have HC : Hid (Chg (fun z => z = a ∨ z = p6 ∨ z = p7) w _) := ((hc.mono (T := fun z => z = a ∨ z = p6 ∨ z = p7) (fun _ f => .inl (.inl f))).trans hc2 (fun _ f => .inl (.inr (.inl f)))).trans hc3 (fun _ f => .inl (.inr (.inr f)))
  have c6 := cell00 hA1.val
  have f6 := fr00 hA1.val
  have c7 := cell00 hA2.err
  have f7 := fr00 hA2.err
  obtain ⟨w0, w1, w2, w3, _⟩ := rcells4 hA.was
  have c3 := cell00 hA.at_
  obtain ⟨b0, b1, b2, b3, bf⟩ := rcells4 hb
  have bf0 := bf 0
  have bf1 := bf 1
  have bf2 := bf 2
  have bf3 := bf 3
  clear hA hA1 hA2 hA3 hb hs hc hc2 hc3
  refine callsD_of_wpS Try.func74 rfl fun c₀ cs hu => ?_
  apply wpS_seq
  apply wpS_region
  simp [wpOpsS, go_sem, recoverD, hu, Try.ntmps74, Exit.thenS, gave]
  refine wpS_of_wp ?_
  have ht : (#[Value.pointer (some ⟨p9, 0, none⟩), Value.pointer (some ⟨p3, 0, none⟩), Value.pointer (some ⟨p6, 0, none⟩), Value.pointer (some ⟨p7, 0, none⟩)] ++ ((Array.replicate 9 undef).setIfInBounds 1 (Value.iface 24 (.int .i64 e))).setIfInBounds 0 (Value.iface 24 (.int .i64 e))) = #[.pointer (some ⟨p9, 0, none⟩), .pointer (some ⟨p3, 0, none⟩), .pointer (some ⟨p6, 0, none⟩), .pointer (some ⟨p7, 0, none⟩), .iface 24 (.int .i64 e), .iface 24 (.int .i64 e), undef, undef, undef, undef, undef, undef, undef] := rfl
  rw [ht]
  clear ht hu
  go_upto_region 3 with fail
  clear w0 w1 w2 w3 c3 b0 b1 b2 b3 bf bf0 bf1 bf2 bf3
  generalize (((w.setCell ⟨a, 0, none⟩ (.slice ad L cap)).setCell ⟨a, 1, none⟩ (.int .i64 n1)).setCell ⟨a, 2, none⟩ (.int .u32 n2)).setCell ⟨a, 3, none⟩ (.int .u32 n3) = w1 at *
  go_wp2_with fail
  refine (reason_any e _).mono ?_
  rintro x w9 ⟨rfl, rfl⟩
  go_wp2
  exact ⟨rfl, _, rfl, _, results_none rfl _ _ _, rfl, rfl, HA.out, HB.out, HC.out⟩

set_option maxHeartbeats 1000000 in
set_option maxRecDepth 100000 in
theorem dcatch_idle (p9 p3 p6 p7 : Value) (w : World) : CallsD Try.prog 78 #[p9, p3, p6, p7] .returning w fun e u' w' => e = .returned (.tuple #[]) ∧ u' = .returning ∧ w' = w := by
  refine callsD_of_wpS Try.func78 rfl fun c₀ cs hu => ?_
  apply wpS_seq
  apply wpS_region
  simp [wpOpsS, go_sem, recoverD, hu, Try.ntmps78, Exit.thenS]
  refine wpS_of_wp ?_
  go_wp2
  cases c₀
  simp_all [bodyPostS, results, Try.results78]

set_option maxHeartbeats 2000000 in
set_option maxRecDepth 100000 in
theorem dcatch_gave (a p9 p3 p6 p7 : Nat) (x0 x1 x2 x3 r0 : Value) (ad : Option Addr) (L cap : Nat) (n1 n2 n3 : Int) (e0 e : Int) (w : World) (hA : Aside w 71 r0 a p9 p3 p6 p7 (.slice ad L cap) (.int .i64 n1) (.int .u32 n2) (.int .u32 n3) e0) (hb : w.heap[a]? = some (.cells #[x0, x1, x2, x3] 91 (0, 0))) :
    CallsD Try.prog 78 #[.pointer (some ⟨p9, 0, none⟩), .pointer (some ⟨p3, 0, none⟩), .pointer (some ⟨p6, 0, none⟩), .pointer (some ⟨p7, 0, none⟩)] (.panicking (gave e)) w fun x u' w' => x = .returned (.tuple #[]) ∧ u' = .panicking [{ v := .iface 24 (.int .i64 e), recovered := true }] ∧ Aside w' 71 (.int .u32 0) a p9 p3 p6 p7 (.slice ad L cap) (.int .i64 n1) (.int .u32 n2) (.int .u32 n3) e ∧ w'.heap[a]? = some (.cells #[.slice ad L cap, .int .i64 n1, .int .u32 n2, .int .u32 n3] 91 (0, 0)) ∧ Chg (fun z => z = a ∨ z = p6 ∨ z = p7) w w' := by
  obtain ⟨hs, hc⟩ := set4 (y0 := .slice ad L cap) (y1 := .int .i64 n1) (y2 := .int .u32 n2) (y3 := .int .u32 n3) hb
  have hA1 := hA.deed hc
  obtain ⟨hA2, hc2⟩ := hA1.setV ((.int .u32 0))
  obtain ⟨hA3, hc3⟩ := hA2.setE e
  have HA : Hid (Aside _ 71 (.int .u32 0) a p9 p3 p6 p7 (.slice ad L cap) (.int .i64 n1) (.int .u32 n2) (.int .u32 n3) e) := hA3
  have HB : Hid _ := blk_other (k := 0) (y := .int .i64 e) (blk_other (k := 0) (y := (.int .u32 0)) hs (Ne.symm hA.n6.1)) (Ne.symm hA.n7)
  have HC : Hid (Chg (fun z => z = a ∨ z = p6 ∨ z = p7) w _) := ((hc.mono (T := fun z => z = a ∨ z = p6 ∨ z = p7) (fun _ f => .inl (.inl f))).trans hc2 (fun _ f => .inl (.inr (.inl f)))).trans hc3 (fun _ f => .inl (.inr (.inr f)))
  have c6 := cell00 hA1.val
  have f6 := fr00 hA1.val
  have c7 := cell00 hA2.err
  have f7 := fr00 hA2.err
  obtain ⟨w0, w1, w2, w3, _⟩ := rcells4 hA.was
  have c3 := cell00 hA.at_
  obtain ⟨b0, b1, b2, b3, bf⟩ := rcells4 hb
  have bf0 := bf 0
  have bf1 := bf 1
  have bf2 := bf 2
  have bf3 := bf 3
  clear hA hA1 hA2 hA3 hb hs hc hc2 hc3
  refine callsD_of_wpS Try.func78 rfl fun c₀ cs hu => ?_
  apply wpS_seq
  apply wpS_region
  simp [wpOpsS, go_sem, recoverD, hu, Try.ntmps78, Exit.thenS, gave]
  refine wpS_of_wp ?_
  have ht : (#[Value.pointer (some ⟨p9, 0, none⟩), Value.pointer (some ⟨p3, 0, none⟩), Value.pointer (some ⟨p6, 0, none⟩), Value.pointer (some ⟨p7, 0, none⟩)] ++ ((Array.replicate 9 undef).setIfInBounds 1 (Value.iface 24 (.int .i64 e))).setIfInBounds 0 (Value.iface 24 (.int .i64 e))) = #[.pointer (some ⟨p9, 0, none⟩), .pointer (some ⟨p3, 0, none⟩), .pointer (some ⟨p6, 0, none⟩), .pointer (some ⟨p7, 0, none⟩), .iface 24 (.int .i64 e), .iface 24 (.int .i64 e), undef, undef, undef, undef, undef, undef, undef] := rfl
  rw [ht]
  clear ht hu
  go_upto_region 3 with fail
  clear w0 w1 w2 w3 c3 b0 b1 b2 b3 bf bf0 bf1 bf2 bf3
  generalize (((w.setCell ⟨a, 0, none⟩ (.slice ad L cap)).setCell ⟨a, 1, none⟩ (.int .i64 n1)).setCell ⟨a, 2, none⟩ (.int .u32 n2)).setCell ⟨a, 3, none⟩ (.int .u32 n3) = w1 at *
  go_wp2_with fail
  refine (reason_any e _).mono ?_
  rintro x w9 ⟨rfl, rfl⟩
  go_wp2
  exact ⟨rfl, _, rfl, _, results_none rfl _ _ _, rfl, rfl, HA.out, HB.out, HC.out⟩
end Go.Proofs.Ytibgjpifmpljkaa
