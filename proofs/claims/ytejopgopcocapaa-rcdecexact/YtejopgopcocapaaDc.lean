/- The program's decoder in memory ('Dcd') and the contracts of its small calls; of no statement by themselves. -/
import Derived.Test.YtejopgopcocapaaDe
import Derived.Test.YtejopgopcocapaaLastQ
import Derived.BigQuiet
namespace Go.Proofs.Ytejopgopcocapaa
open Go.RowKit
set_option linter.unusedVariables false

structure Dcd (w : World) (B a : Nat) (v : Value) (bs : List Nat) (d : Rc.D) : Prop where
  hr : B ≤ a
  blk : w.heap[a]? = some (.cells #[v, .int .i64 (d.n : Int), .int .u32 (d.R : Int), .int .u32 (d.C : Int)] 70 (0, 0))
  own : w.ownsRow B 5 1 v bs.length (ins .u8 (nums bs))
theorem Dcd.keep {w w' : World} {S : Nat → Prop} {B a : Nat} {v : Value} {bs : List Nat} {d : Rc.D} (h : Dcd w B a v bs d) (hc : Chg S w w') (h1 : ¬ S a) (h2 : ∀ g, v.ownBlock = some g → ¬ S g) : Dcd w' B a v bs d := ⟨h.hr, blk_keep h.blk hc h1, ownsRow_keep h.own hc h2⟩
theorem Dcd.new {w w' : World} {B a : Nat} {v : Value} {bs : List Nat} {d : Rc.D} (h : Dcd w B a v bs d) (hc : Chg (fun _ => False) w w') : Dcd w' B a v bs d := h.keep hc (fun f => f) (fun _ _ f => f)
theorem Dcd.ne {w : World} {B a : Nat} {v : Value} {bs : List Nat} {d : Rc.D} (h : Dcd w B a v bs d) : v.ownBlock ≠ some a := fun e => by
  obtain ⟨cur, hcur⟩ := owns_blk h.own e
  exact ty_ne h.blk hcur (by decide)
theorem Dcd.lt {w : World} {B a : Nat} {v : Value} {bs : List Nat} {d : Rc.D} (h : Dcd w B a v bs d) : a < w.heap.size := lt_of_blk h.blk
/-- Its numbers are written. -/
theorem Dcd.put {w : World} {B a : Nat} {v : Value} {bs : List Nat} {d : Rc.D} (h : Dcd w B a v bs d) (k : Nat) (y : Value) (d' : Rc.D) (hd : ([v, .int .i64 (d.n : Int), .int .u32 (d.R : Int), .int .u32 (d.C : Int)] : List Value).set k y = [v, .int .i64 (d'.n : Int), .int .u32 (d'.R : Int), .int .u32 (d'.C : Int)]) : Dcd (w.setCell ⟨a, k, none⟩ y) B a v bs d' ∧ Chg (fun z => z = a) w (w.setCell ⟨a, k, none⟩ y) := by
  have c1 : Chg (fun z => z = a) w (w.setCell ⟨a, k, none⟩ y) := (Chg.refl (fun z => z = a) w).setCell (p := ⟨a, k, none⟩) (.inl rfl) _
  have b1 := blk_setk (l := [v, .int .i64 (d.n : Int), .int .u32 (d.R : Int), .int .u32 (d.C : Int)]) h.blk k y
  rw [hd] at b1
  exact ⟨⟨h.hr, b1, ownsRow_keep h.own c1 (fun g e e2 => h.ne (by rw [← e2]; exact e))⟩, c1⟩
theorem quiet (w : World) (n : Nat) : Chg (fun _ => False) w (w.drewN n) := chg_drewN w n

theorem dused_any (B a : Nat) (v : Value) (bs : List Nat) (d : Rc.D) (w : World) (h : Dcd w B a v bs d) : Calls Try.prog 18 #[.pointer (some ⟨a, 0, none⟩)] w fun e w' => e = .returned (.int .i64 (d.n : Int)) ∧ Chg (fun _ => False) w w' := by
  obtain ⟨_, k1, _, _, _⟩ := rcells4 h.blk
  clear h
  go_enter Try.func18, Try.ntmps18
  go_wp2
  go_ret
  exact ⟨rfl, Chg.refl _ _⟩

set_option maxHeartbeats 1000000 in
set_option maxRecDepth 100000 in
theorem ddone_any (B a : Nat) (v : Value) (bs : List Nat) (d : Rc.D) (w : World) (h : Dcd w B a v bs d) : Calls Try.prog 19 #[.pointer (some ⟨a, 0, none⟩)] w fun e w' => e = .returned (.bool (decide (d.n = bs.length ∧ d.C = 0))) ∧ Chg (fun _ => False) w w' := by
  obtain ⟨k0, k1, _, k3, _⟩ := rcells4 h.blk
  obtain ⟨ad, cap, hv, _⟩ := own_any h.own
  subst hv
  clear h
  by_cases h1 : d.n = bs.length
  · have hb : ((d.n : Int) == (bs.length : Int)) = true := by simp [h1]
    have hd : decide ((d.n : Int) = (bs.length : Int)) = true := by simp [h1]
    by_cases h2 : d.C = 0
    · have hb2 : ((d.C : Int) == 0) = true := by simp [h2]
      have hd2 : decide ((d.C : Int) = 0) = true := by simp [h2]
      have he : decide (d.n = bs.length ∧ d.C = 0) = true := by simp [h1, h2]
      rw [he]
      clear h1 h2 he
      go_enter Try.func19, Try.ntmps19
      go_wp2_with fail
      go_quiet (fail)
      go_wp2
      go_ret
      exact ⟨rfl, chg_drewN _ _⟩
    · have hb2 : ((d.C : Int) == 0) = false := by simp; omega
      have hd2 : decide ((d.C : Int) = 0) = false := by simp; omega
      have he : decide (d.n = bs.length ∧ d.C = 0) = false := by simp [h2]
      rw [he]
      clear h1 h2 he
      go_enter Try.func19, Try.ntmps19
      go_wp2_with fail
      go_quiet (fail)
      go_wp2
      go_ret
      exact ⟨rfl, chg_drewN _ _⟩
  · have hb : ((d.n : Int) == (bs.length : Int)) = false := by simp; omega
    have hd : decide ((d.n : Int) = (bs.length : Int)) = false := by simp; omega
    have he : decide (d.n = bs.length ∧ d.C = 0) = false := by simp [h1]
    rw [he]
    clear h1 he
    go_enter Try.func19, Try.ntmps19
    go_wp2_with fail
    go_quiet (fail)
    go_wp2
    go_ret
    exact ⟨rfl, chg_drewN _ _⟩

set_option maxHeartbeats 1000000 in
set_option maxRecDepth 100000 in
theorem dcut_any (B a : Nat) (v : Value) (bs : List Nat) (d : Rc.D) (b : Nat) (w : World) (h : Dcd w B a v bs d) (hC : d.C < d.R) (hR : d.R ≤ 4294967295) : Calls Try.prog 39 #[.pointer (some ⟨a, 0, none⟩), .int .u32 (b : Int)] w fun e w' => e = .returned (.int .i64 (bt (Rc.oneD d b))) ∧ Dcd w' B a v bs (Rc.partD d b) ∧ Chg (fun z => z = a) w w' := by
  have HH : Hid (Dcd w B a v bs d) := h
  obtain ⟨_, _, k2, k3, fz⟩ := rcells4 h.blk
  have f2 := fz 2
  have f3 := fz 3
  clear h fz
  by_cases hb : b ≤ d.C
  · have e1 : Rc.oneD d b = true := decide_eq_true hb
    have e2 : Rc.partD d b = ⟨d.n, d.R - b, d.C - b⟩ := by unfold Rc.partD; rw [if_pos hb]
    rw [e1, e2]
    obtain ⟨r, hr⟩ : ∃ r : Int, r = (d.R : Int) := ⟨_, rfl⟩
    obtain ⟨c, hc⟩ : ∃ c : Int, c = (d.C : Int) := ⟨_, rfl⟩
    obtain ⟨y, hy⟩ : ∃ y : Int, y = (b : Int) := ⟨_, rfl⟩
    have x1 : IntKind.u32.wrap (c - y) = c - y := by simp [IntKind.wrap, IntKind.signed, IntKind.bits]; omega
    have x2 : IntKind.u32.wrap (r - y) = r - y := by simp [IntKind.wrap, IntKind.signed, IntKind.bits]; omega
    have x3 : decide (c < y) = false := by simp; omega
    obtain ⟨p1, q1⟩ := HH.out.put 3 (.int .u32 (c - y)) ⟨d.n, d.R, d.C - b⟩ (by simp; omega)
    obtain ⟨p2, q2⟩ := p1.put 2 (.int .u32 (r - y)) ⟨d.n, d.R - b, d.C - b⟩ (by simp; omega)
    have g2 := (rcells4 p1.blk).2.2.1
    have fg2 := (rcells4 p1.blk).2.2.2.2 2
    simp only at g2
    have HP : Hid (Dcd ((w.setCell ⟨a, 3, none⟩ (.int .u32 (c - y))).setCell ⟨a, 2, none⟩ (.int .u32 (r - y))) B a v bs ⟨d.n, d.R - b, d.C - b⟩) := p2
    have HQ : Hid (Chg (fun z => z = a) w ((w.setCell ⟨a, 3, none⟩ (.int .u32 (c - y))).setCell ⟨a, 2, none⟩ (.int .u32 (r - y)))) := q1.trans q2 (fun _ f => .inl f)
    rw [← hr] at k2 g2
    rw [← hc] at k3
    rw [← hy]
    clear p1 q1 p2 q2 e1 e2 hr hc hy hb hC hR
    go_enter Try.func39, Try.ntmps39
    go_wp2
    go_ret
    exact ⟨rfl, HP.out, HQ.out⟩
  · have e1 : Rc.oneD d b = false := decide_eq_false hb
    have e2 : Rc.partD d b = ⟨d.n, b, d.C⟩ := by unfold Rc.partD; rw [if_neg hb]
    rw [e1, e2]
    obtain ⟨c, hc⟩ : ∃ c : Int, c = (d.C : Int) := ⟨_, rfl⟩
    obtain ⟨y, hy⟩ : ∃ y : Int, y = (b : Int) := ⟨_, rfl⟩
    have x4 : c < y := by omega
    have x3 : decide (c < y) = true := by simp; omega
    obtain ⟨p1, q1⟩ := HH.out.put 2 (.int .u32 y) ⟨d.n, b, d.C⟩ (by simp; omega)
    have HP : Hid (Dcd (w.setCell ⟨a, 2, none⟩ (.int .u32 y)) B a v bs ⟨d.n, b, d.C⟩) := p1
    have HQ : Hid (Chg (fun z => z = a) w (w.setCell ⟨a, 2, none⟩ (.int .u32 y))) := q1
    rw [← hc] at k3
    rw [← hy]
    clear p1 q1 e1 e2 hb hC hR hc hy
    go_enter Try.func39, Try.ntmps39
    go_wp2
    go_ret
    exact ⟨rfl, HP.out, HQ.out⟩

/-- What a step gives up with. -/
def gave (e : Int) : List PanicEntry := [{ v := .iface 28 (.int .i64 e), recovered := false }]
theorem assert_any (e : Int) (w : World) : (Instr.typeAssert (.iface 28 (.int .i64 e)) 20 28 false).run Try.prog w = .ok (.int .i64 e) w := by kernel_rfl
set_option maxRecDepth 100000 in
theorem reason_any (e : Int) (w : World) : Calls Try.prog 35 #[.iface 28 (.int .i64 e)] w fun x w' => x = .returned (.int .i64 e) ∧ w = w' := by
  have hta := assert_any e
  go_enter Try.func35, Try.ntmps35
  go_wp2
  go_ret
  exact ⟨rfl, rfl⟩

set_option maxHeartbeats 1000000 in
set_option maxRecDepth 100000 in
theorem dnext_dry (B a : Nat) (v : Value) (bs : List Nat) (d : Rc.D) (w : World) (h : Dcd w B a v bs d) (hn : d.n = bs.length) : Calls Try.prog 51 #[.pointer (some ⟨a, 0, none⟩)] w fun e w' => e = .panicked (gave 1) ∧ Chg (fun _ => False) w w' := by
  obtain ⟨k0, k1, _, _, _⟩ := rcells4 h.blk
  obtain ⟨ad, cap, hv, _⟩ := own_any h.own
  subst hv
  have hb : ((d.n : Int) == (bs.length : Int)) = true := by simp [hn]
  have hd : decide ((d.n : Int) = (bs.length : Int)) = true := by simp [hn]
  clear h hn
  go_enter Try.func51, Try.ntmps51
  go_wp2_with fail
  go_quiet (fail)
  go_wp2
  exact ⟨rfl, rfl, chg_drewN _ _⟩

set_option maxHeartbeats 1000000 in
set_option maxRecDepth 100000 in
theorem dnext_some (B a : Nat) (v : Value) (bs : List Nat) (d : Rc.D) (w : World) (h : Dcd w B a v bs d) (hn : d.n < bs.length) (hl : bs.length ≤ 140737488355328) : Calls Try.prog 51 #[.pointer (some ⟨a, 0, none⟩)] w fun e w' => e = .returned (.int .u8 (bs.getD d.n 0 : Nat)) ∧ Dcd w' B a v bs ⟨d.n + 1, d.R, d.C⟩ ∧ Chg (fun z => z = a) w w' := by
  have HH : Hid (Dcd w B a v bs d) := h
  obtain ⟨k0, k1, _, _, fz⟩ := rcells4 h.blk
  have f1 := fz 1
  obtain ⟨g, cap, hv, _, _, _, _, _, hcl⟩ := own_some h.own (by omega)
  have hx : w.cell? ⟨g, d.n, none⟩ = some (.int .u8 (bs.getD d.n 0 : Nat)) := hcl d.n _ (by simp [ins, nums, hn])
  obtain ⟨x, hxx⟩ : ∃ x : Int, x = ((bs.getD d.n 0 : Nat) : Int) := ⟨_, rfl⟩
  rw [← hxx] at hx ⊢
  have hb : ((d.n : Int) == (bs.length : Int)) = false := by simp; omega
  have hd : decide ((d.n : Int) = (bs.length : Int)) = false := by simp; omega
  have y1 : (d.n : Int) < (bs.length : Int) := by omega
  have y2 : 0 ≤ (d.n : Int) := by omega
  have y3 : IntKind.i64.wrap ((d.n : Int) + 1) = (d.n : Int) + 1 := wr64 (by omega) (by omega)
  subst hv
  have HP : ∀ nq, Hid (Dcd ((w.drewN nq).setCell ⟨a, 1, none⟩ (.int .i64 ((d.n : Int) + 1))) B a (.slice (some ⟨g, 0, none⟩) bs.length cap) bs ⟨d.n + 1, d.R, d.C⟩ ∧ Chg (fun z => z = a) w ((w.drewN nq).setCell ⟨a, 1, none⟩ (.int .i64 ((d.n : Int) + 1)))) := fun nq => by
    obtain ⟨p1, q1⟩ := (HH.out.new (chg_drewN w nq)).put 1 (.int .i64 ((d.n : Int) + 1)) ⟨d.n + 1, d.R, d.C⟩ (by simp)
    exact ⟨p1, ((chg_drewN w nq).mono (T := fun z => z = a) (fun _ f => f.elim)).trans q1 (fun _ f => .inl f)⟩
  clear h fz hcl hxx HH
  go_enter Try.func51, Try.ntmps51
  go_wp2_with fail
  go_quiet (fail)
  go_wp2_with fail
  go_quiet (fail)
  go_wp2
  go_ret
  refine ⟨rfl, ?_⟩
  exact (HP _).out
end Go.Proofs.Ytejopgopcocapaa
