/- The document's decoder in memory ('Rdc') and the contracts of its Fork, Used and widen; of no statement by themselves. -/
import Derived.Test.YtejopgopcocapaaEnD
import Derived.Test.YtejopgopcocapaaRefC
import Derived.Test.YtejopgopcocapaaRd
namespace Go.Proofs.Ytejopgopcocapaa
open Go.RowKit
set_option linter.unusedVariables false

structure Rdc (w : World) (B r : Nat) (v : Value) (bs : List Nat) (d : Rc.D) : Prop where
  hr : B ≤ r
  blk : w.heap[r]? = some (.cells #[v, .int .i64 (d.n : Int), .int .i64 (d.R : Int), .int .i64 (d.C : Int)] 86 (0, 0))
  own : w.ownsRow B 5 1 v bs.length (ins .u8 (nums bs))
  dig : Rc.Dig bs
theorem Rdc.keep {w w' : World} {S : Nat → Prop} {B r : Nat} {v : Value} {bs : List Nat} {d : Rc.D} (h : Rdc w B r v bs d) (hc : Chg S w w') (h1 : ¬ S r) (h2 : ∀ g, v.ownBlock = some g → ¬ S g) : Rdc w' B r v bs d := ⟨h.hr, blk_keep h.blk hc h1, ownsRow_keep h.own hc h2, h.dig⟩
theorem Rdc.new {w w' : World} {B r : Nat} {v : Value} {bs : List Nat} {d : Rc.D} (h : Rdc w B r v bs d) (hc : Chg (fun _ => False) w w') : Rdc w' B r v bs d := h.keep hc (fun f => f) (fun _ _ f => f)
theorem Rdc.ne {w : World} {B r : Nat} {v : Value} {bs : List Nat} {d : Rc.D} (h : Rdc w B r v bs d) : v.ownBlock ≠ some r := fun e => by
  obtain ⟨cur, hcur⟩ := owns_blk h.own e
  exact ty_ne h.blk hcur (by decide)
theorem rcells4 {w : World} {a : Nat} {x0 x1 x2 x3 : Value} {t : TypeId} (h : w.heap[a]? = some (.cells #[x0, x1, x2, x3] t (0, 0))) : w.cell? ⟨a, 0, none⟩ = some x0 ∧ w.cell? ⟨a, 1, none⟩ = some x1 ∧ w.cell? ⟨a, 2, none⟩ = some x2 ∧ w.cell? ⟨a, 3, none⟩ = some x3 ∧ ∀ j, w.frozen? ⟨a, j, none⟩ = false :=
  ⟨by simp [World.cell?, h], by simp [World.cell?, h], by simp [World.cell?, h], by simp [World.cell?, h], fun j => by simp [World.frozen?, h]⟩
/-- Its numbers are written. -/
theorem Rdc.put {w : World} {B r : Nat} {v : Value} {bs : List Nat} {d : Rc.D} (h : Rdc w B r v bs d) (k : Nat) (q : Int) (d' : Rc.D) (hd : ([v, .int .i64 (d.n : Int), .int .i64 (d.R : Int), .int .i64 (d.C : Int)] : List Value).set k (.int .i64 q) = [v, .int .i64 (d'.n : Int), .int .i64 (d'.R : Int), .int .i64 (d'.C : Int)]) : Rdc (w.setCell ⟨r, k, none⟩ (.int .i64 q)) B r v bs d' ∧ Chg (fun z => z = r) w (w.setCell ⟨r, k, none⟩ (.int .i64 q)) := by
  have c1 : Chg (fun z => z = r) w (w.setCell ⟨r, k, none⟩ (.int .i64 q)) := (Chg.refl (fun z => z = r) w).setCell (p := ⟨r, k, none⟩) (.inl rfl) _
  have b1 := blk_setk (l := [v, .int .i64 (d.n : Int), .int .i64 (d.R : Int), .int .i64 (d.C : Int)]) h.blk k (.int .i64 q)
  rw [hd] at b1
  exact ⟨⟨h.hr, b1, ownsRow_keep h.own c1 (fun g e e2 => h.ne (by rw [← e2]; exact e)), h.dig⟩, c1⟩

theorem rdused_any (B r : Nat) (v : Value) (bs : List Nat) (d : Rc.D) (w : World) (h : Rdc w B r v bs d) : Calls Try.prog 24 #[.pointer (some ⟨r, 0, none⟩)] w fun e w' => e = .returned (.int .i64 (d.n : Int)) ∧ w = w' := by
  obtain ⟨_, k1, _, _, _⟩ := rcells4 h.blk
  clear h
  go_enter Try.func24, Try.ntmps24
  go_wp2
  go_ret
  exact ⟨rfl, rfl⟩

theorem rdfork_any (B r : Nat) (v : Value) (bs : List Nat) (d : Rc.D) (w : World) (h : Rdc w B r v bs d) (hB : B ≤ w.heap.size) : Calls Try.prog 43 #[.pointer (some ⟨r, 0, none⟩)] w fun e w' => ∃ f, e = .returned (.pointer (some ⟨f, 0, none⟩)) ∧ w.heap.size ≤ f ∧ Rdc w' B f v bs d ∧ Chg (fun _ => False) w w' := by
  obtain ⟨k0, k1, k2, k3, _⟩ := rcells4 h.blk
  obtain ⟨ad, cap, hv, _⟩ := own_any h.own
  have HH : Hid (Rdc w B r v bs d) := h
  subst hv
  clear h
  go_enter Try.func43, Try.ntmps43
  go_wp2
  go_ret
  have c1 := chg_one w (.cells #[.slice ad bs.length cap, .int .i64 (d.n : Int), .int .i64 (d.R : Int), .int .i64 (d.C : Int)] 86)
  exact ⟨_, rfl, Nat.le_refl _, ⟨hB, heap_alloc_last w _, ownsRow_keep HH.out.own c1 (fun _ _ f => f), HH.out.dig⟩, c1⟩

set_option maxHeartbeats 1000000 in
set_option maxRecDepth 100000 in
theorem rdwiden_no (B r : Nat) (v : Value) (bs : List Nat) (d : Rc.D) (w : World) (h : Rdc w B r v bs d) (hR : 16777216 ≤ d.R) : Calls Try.prog 44 #[.pointer (some ⟨r, 0, none⟩)] w fun e w' => e = .returned (.bool true) ∧ w = w' := by
  obtain ⟨_, _, k2, _, _⟩ := rcells4 h.blk
  obtain ⟨z, hz⟩ : ∃ z : Int, z = (d.R : Int) := ⟨_, rfl⟩
  have h1 : 16777216 ≤ z := by omega
  rw [← hz] at k2
  clear h hz hR
  go_enter Try.func44, Try.ntmps44
  go_wp2
  go_ret
  exact ⟨rfl, rfl⟩

set_option maxHeartbeats 1000000 in
set_option maxRecDepth 100000 in
theorem rdwiden_dry (B r : Nat) (v : Value) (bs : List Nat) (d : Rc.D) (w0 : World) (h : Rdc w0 B r v bs d) (hR : d.R < 16777216) (hn : d.n = bs.length) : Calls Try.prog 44 #[.pointer (some ⟨r, 0, none⟩)] w0 fun e w' => e = .returned (.bool false) ∧ Chg (fun _ => False) w0 w' := by
  obtain ⟨k0, k1, k2, _, _⟩ := rcells4 h.blk
  obtain ⟨ad, cap, hv, _⟩ := own_any h.own
  rw [hv, ← hn] at k0
  obtain ⟨z, hz⟩ : ∃ z : Int, z = (d.R : Int) := ⟨_, rfl⟩
  have h1 : z < 16777216 := by omega
  have hd : decide (16777216 ≤ z) = false := by simp; omega
  rw [← hz] at k2
  clear h hz hR hn
  obtain ⟨n, hn⟩ : ∃ n, d.n = n := ⟨_, rfl⟩
  rw [hn] at k0 k1
  obtain ⟨L, hL⟩ : ∃ L, n = L := ⟨_, rfl⟩
  have HL : Hid (n = L) := hL
  rw [hL] at k0
  clear hn hL hv
  go_enter Try.func44, Try.ntmps44
  go_wp2_with fail
  refine wp_region_last (mk := fun u => #[_, _, _, _, _, _, _, _, u 8, u 9, u 10, u 11, u 12, u 13, u 14, u 15, u 16, _, _, _, _, _, _, _, _, _, _, _, _, _, _, _, _, _, _, _, _, _, _, _, _, _, _, _, _, _, _, _, _, _, _, _, _]) (F := fun slot vv ww => (look [(8, .val (.pointer (some ⟨r, 0, none⟩))), (9, .val (.pointer (some ⟨r, 0, none⟩))), (10, .val (.pointer (some ⟨r, 1, none⟩))), (11, .val (.int .i64 (n : Int))), (12, .val (.pointer (some ⟨r, 0, none⟩))), (13, .val (.pointer (some ⟨r, 0, none⟩))), (14, .val (.pointer (some ⟨r, 0, none⟩))), (15, .val (.slice ad L cap)), (16, .val (.int .i64 (L : Int)))] slot).holds vv ww) (fun _ => undef) rfl (by kernel_rfl) 9 _ rfl rfl (by kernel_rfl) ?_ (fun _ v w w' hc h => Fact.stays _ v w w' hc h) ?_ ?_
  · repeat (refine ⟨⟨_, rfl, fun _ _ => rfl⟩, ?_⟩)
    exact trivial
  · refine ⟨?_, ?_, ?_, ?_, ?_, ?_, ?_, ?_, ?_, trivial⟩
    · intro u w hc hd K hK -- 8
      clear hd
      go_simp
      exact hK.out (.pointer (some ⟨r, 0, none⟩)) w (Chg.refl _ _) rfl
    · intro u w hc hd K hK -- 9
      have h8 : (Fact.val (.pointer (some ⟨r, 0, none⟩))).holds (u 8) w := hd.get 0 (by kernel_rfl)
      simp only [Fact.holds] at h8
      clear hd
      simp only [h8] at hK
      go_simp
      exact hK.out (.pointer (some ⟨r, 0, none⟩)) w (Chg.refl _ _) rfl
    · intro u w hc hd K hK -- 10
      have h9 : (Fact.val (.pointer (some ⟨r, 0, none⟩))).holds (u 9) w := hd.get 1 (by kernel_rfl)
      simp only [Fact.holds] at h9
      clear hd
      simp only [h9] at hK
      go_simp
      exact hK.out (.pointer (some ⟨r, 1, none⟩)) w (Chg.refl _ _) rfl
    · intro u w hc hd K hK -- 11
      have h10 : (Fact.val (.pointer (some ⟨r, 1, none⟩))).holds (u 10) w := hd.get 2 (by kernel_rfl)
      simp only [Fact.holds] at h10
      clear hd
      simp only [h10] at hK
      have hcell := cell_chg k1 hc
      go_simp
      exact hK.out _ _ (Chg.refl _ _) rfl
    · intro u w hc hd K hK -- 12
      clear hd
      go_simp
      exact hK.out (.pointer (some ⟨r, 0, none⟩)) w (Chg.refl _ _) rfl
    · intro u w hc hd K hK -- 13
      have h12 : (Fact.val (.pointer (some ⟨r, 0, none⟩))).holds (u 12) w := hd.get 4 (by kernel_rfl)
      simp only [Fact.holds] at h12
      clear hd
      simp only [h12] at hK
      go_simp
      exact hK.out (.pointer (some ⟨r, 0, none⟩)) w (Chg.refl _ _) rfl
    · intro u w hc hd K hK -- 14
      have h13 : (Fact.val (.pointer (some ⟨r, 0, none⟩))).holds (u 13) w := hd.get 5 (by kernel_rfl)
      simp only [Fact.holds] at h13
      clear hd
      simp only [h13] at hK
      go_simp
      exact hK.out (.pointer (some ⟨r, 0, none⟩)) w (Chg.refl _ _) rfl
    · intro u w hc hd K hK -- 15
      have h14 : (Fact.val (.pointer (some ⟨r, 0, none⟩))).holds (u 14) w := hd.get 6 (by kernel_rfl)
      simp only [Fact.holds] at h14
      clear hd
      simp only [h14] at hK
      have hcell := cell_chg k0 hc
      go_simp
      exact hK.out _ _ (Chg.refl _ _) rfl
    · intro u w hc hd K hK -- 16
      have h15 : (Fact.val (.slice ad L cap)).holds (u 15) w := hd.get 7 (by kernel_rfl)
      simp only [Fact.holds] at h15
      clear hd
      simp only [h15] at hK
      go_simp
      exact hK.out (.int .i64 (L : Int)) w (Chg.refl _ _) rfl
  · intro u w hc hA K hK
    have e11 : u 11 = .int .i64 (n : Int) := hA.at 11 (by kernel_rfl)
    have e16 : u 16 = .int .i64 (L : Int) := hA.at 16 (by kernel_rfl)
    clear hA
    have HC : Hid (Chg (fun _ => False) w0 w) := hc
    have hL := HL.out
    subst hL
    clear hc
    go_simp
    refine hK.out _ _ ?_
    go_simp
    go_wp2
    go_ret
    exact ⟨rfl, HC.out⟩

set_option maxHeartbeats 2000000 in
set_option maxRecDepth 100000 in
theorem rdwiden_yes (B r : Nat) (v : Value) (bs : List Nat) (d : Rc.D) (w0 : World) (h : Rdc w0 B r v bs d) (hR : d.R < 16777216) (hC : d.C < d.R) (hn : d.n < bs.length) (hl : bs.length ≤ 140737488355328) : Calls Try.prog 44 #[.pointer (some ⟨r, 0, none⟩)] w0 fun e w' => e = .returned (.bool true) ∧ Rdc w' B r v bs ⟨d.n + 1, 256 * d.R, 256 * d.C + bs.getD d.n 0⟩ ∧ Chg (fun z => z = r) w0 w' := by
  obtain ⟨k0, k1, k2, k3, kf⟩ := rcells4 h.blk
  obtain ⟨g, cap, hv, hlc, _, _, _, _, hcell⟩ := own_some h.own (by omega)
  have hxb : bs.getD d.n 0 < 256 := by rw [List.getD_eq_getElem?_getD, List.getElem?_eq_getElem hn]; exact h.dig _ (List.getElem_mem hn)
  have hx := hcell d.n (.int .u8 ((bs.getD d.n 0 : Nat) : Int)) (by simp [ins, nums, hn, List.getD])
  have HH : Hid (Rdc w0 B r v bs d) := h
  have HGR : Hid (g ≠ r) := fun e => h.ne (by rw [hv, e]; rfl)
  have HV : Hid (v = .slice (some ⟨g, 0, none⟩) bs.length cap) := hv
  rw [hv] at k0
  obtain ⟨x, hx0⟩ : ∃ x, bs.getD d.n 0 = x := ⟨_, rfl⟩
  have HX0 : Hid (bs.getD d.n 0 = x) := hx0
  rw [hx0] at hx hxb
  obtain ⟨n, hn0⟩ : ∃ n, d.n = n := ⟨_, rfl⟩
  have HN0 : Hid (d.n = n) := hn0
  rw [hn0] at hx k1 hn
  obtain ⟨z, hz⟩ : ∃ z : Int, z = (d.R : Int) := ⟨_, rfl⟩
  obtain ⟨c, hc0⟩ : ∃ c : Int, c = (d.C : Int) := ⟨_, rfl⟩
  have HZ : Hid (z = (d.R : Int)) := hz
  have HC0 : Hid (c = (d.C : Int)) := hc0
  have z1 : 0 ≤ z := by omega
  have z2 : z < 16777216 := by omega
  have c1 : 0 ≤ c := by omega
  have c2 : c < 16777216 := by omega
  have hd : decide (16777216 ≤ z) = false := by simp; omega
  rw [← hz] at k2
  rw [← hc0] at k3
  obtain ⟨L, hL⟩ : ∃ L, bs.length = L := ⟨_, rfl⟩
  have HLL : Hid (bs.length = L) := hL
  rw [hL] at k0 hn hlc hl
  have hdn : decide ((n : Int) = (L : Int)) = false := by simp; omega
  have hdn2 : ((n : Int) == (L : Int)) = false := by simp; omega
  have f2 := kf 2
  clear h hz hc0 hx0 hn0 hR hC hv hcell kf hL
  have ad_ : True := trivial
  go_enter Try.func44, Try.ntmps44
  go_wp2_with fail
  refine wp_region_last (mk := fun u => #[_, _, _, _, _, _, _, _, u 8, u 9, u 10, u 11, u 12, u 13, u 14, u 15, u 16, _, _, _, _, _, _, _, _, _, _, _, _, _, _, _, _, _, _, _, _, _, _, _, _, _, _, _, _, _, _, _, _, _, _, _, _]) (F := fun slot vv ww => (look [(8, .val (.pointer (some ⟨r, 0, none⟩))), (9, .val (.pointer (some ⟨r, 0, none⟩))), (10, .val (.pointer (some ⟨r, 1, none⟩))), (11, .val (.int .i64 (n : Int))), (12, .val (.pointer (some ⟨r, 0, none⟩))), (13, .val (.pointer (some ⟨r, 0, none⟩))), (14, .val (.pointer (some ⟨r, 0, none⟩))), (15, .val (.slice (some ⟨g, 0, none⟩) L cap)), (16, .val (.int .i64 (L : Int)))] slot).holds vv ww) (fun _ => undef) rfl (by kernel_rfl) 9 _ rfl rfl (by kernel_rfl) ?_ (fun _ v w w' hc h => Fact.stays _ v w w' hc h) ?_ ?_
  · repeat (refine ⟨⟨_, rfl, fun _ _ => rfl⟩, ?_⟩)
    exact trivial
  · refine ⟨?_, ?_, ?_, ?_, ?_, ?_, ?_, ?_, ?_, trivial⟩
    · intro u w hc hd K hK -- 8
      clear hd
      go_simp
      exact hK.out (.pointer (some ⟨r, 0, none⟩)) w (Chg.refl _ _) rfl
    · intro u w hc hd K hK -- 9
      have h8 : (Fact.val (.pointer (some ⟨r, 0, none⟩))).holds (u 8) w := hd.get 0 (by kernel_rfl)
      simp only [Fact.holds] at h8
      clear hd
      simp only [h8] at hK
      go_simp
      exact hK.out (.pointer (some ⟨r, 0, none⟩)) w (Chg.refl _ _) rfl
    · intro u w hc hd K hK -- 10
      have h9 : (Fact.val (.pointer (some ⟨r, 0, none⟩))).holds (u 9) w := hd.get 1 (by kernel_rfl)
      simp only [Fact.holds] at h9
      clear hd
      simp only [h9] at hK
      go_simp
      exact hK.out (.pointer (some ⟨r, 1, none⟩)) w (Chg.refl _ _) rfl
    · intro u w hc hd K hK -- 11
      have h10 : (Fact.val (.pointer (some ⟨r, 1, none⟩))).holds (u 10) w := hd.get 2 (by kernel_rfl)
      simp only [Fact.holds] at h10
      clear hd
      simp only [h10] at hK
      have hcell := cell_chg k1 hc
      go_simp
      exact hK.out _ _ (Chg.refl _ _) rfl
    · intro u w hc hd K hK -- 12
      clear hd
      go_simp
      exact hK.out (.pointer (some ⟨r, 0, none⟩)) w (Chg.refl _ _) rfl
    · intro u w hc hd K hK -- 13
      have h12 : (Fact.val (.pointer (some ⟨r, 0, none⟩))).holds (u 12) w := hd.get 4 (by kernel_rfl)
      simp only [Fact.holds] at h12
      clear hd
      simp only [h12] at hK
      go_simp
      exact hK.out (.pointer (some ⟨r, 0, none⟩)) w (Chg.refl _ _) rfl
    · intro u w hc hd K hK -- 14
      have h13 : (Fact.val (.pointer (some ⟨r, 0, none⟩))).holds (u 13) w := hd.get 5 (by kernel_rfl)
      simp only [Fact.holds] at h13
      clear hd
      simp only [h13] at hK
      go_simp
      exact hK.out (.pointer (some ⟨r, 0, none⟩)) w (Chg.refl _ _) rfl
    · intro u w hc hd K hK -- 15
      have h14 : (Fact.val (.pointer (some ⟨r, 0, none⟩))).holds (u 14) w := hd.get 6 (by kernel_rfl)
      simp only [Fact.holds] at h14
      clear hd
      simp only [h14] at hK
      have hcell := cell_chg k0 hc
      go_simp
      exact hK.out _ _ (Chg.refl _ _) rfl
    · intro u w hc hd K hK -- 16
      have h15 : (Fact.val (.slice (some ⟨g, 0, none⟩) L cap)).holds (u 15) w := hd.get 7 (by kernel_rfl)
      simp only [Fact.holds] at h15
      clear hd
      simp only [h15] at hK
      go_simp
      exact hK.out (.int .i64 (L : Int)) w (Chg.refl _ _) rfl
  · intro u w hc hA K hK
    have e11 : u 11 = .int .i64 (n : Int) := hA.at 11 (by kernel_rfl)
    have e16 : u 16 = .int .i64 (L : Int) := hA.at 16 (by kernel_rfl)
    clear hA
    have H1 := HH.out.new hc
    have HCw : Hid (Chg (fun _ => False) w0 w) := hc
    have m2 := cell_chg k2 hc
    have mf2 := (rcells4 H1.blk).2.2.2.2 2
    obtain ⟨h2, cc2⟩ := H1.put 2 (256 * z) ⟨d.n, 256 * d.R, d.C⟩ (by have := HZ.out; simp only [List.set]; rw [show 256 * z = ((256 * d.R : Nat) : Int) by omega])
    have H2 : Hid (Rdc (w.setCell ⟨r, 2, none⟩ (.int .i64 (256 * z))) B r v bs ⟨d.n, 256 * d.R, d.C⟩) := h2
    have HC2 : Hid (Chg (fun z => z = r) w0 (w.setCell ⟨r, 2, none⟩ (.int .i64 (256 * z)))) := (hc.mono (fun _ f => f.elim)).trans cc2 (fun _ e => .inl e)
    have HXg : Hid ((w.setCell ⟨r, 2, none⟩ (.int .i64 (256 * z))).cell? ⟨g, n, none⟩ = some (.int .u8 (x : Int))) := by
      have hx2 := cell_chg hx HCw.out
      rw [World.cell?_of_block (w := w) (cc2.block _ (World.block_lt_of_cell? w _ hx2) (fun e => ?_))]
      · exact hx2
      · exact HGR.out e
    clear hc H1 h2 cc2 k0 k1 k2 k3 hx
    go_simp
    refine hK.out _ _ ?_
    clear hK
    go_wp2_with fail
    obtain ⟨q0, q1, _, q3, qf⟩ := rcells4 H2.out.blk
    rw [HV.out, HLL.out] at q0
    replace q1 : (w.setCell ⟨r, 2, none⟩ (.int .i64 (256 * z))).cell? ⟨r, 1, none⟩ = some (.int .i64 (n : Int)) := by rw [← HN0.out]; exact q1
    replace q3 : (w.setCell ⟨r, 2, none⟩ (.int .i64 (256 * z))).cell? ⟨r, 3, none⟩ = some (.int .i64 c) := by have := HC0.out; rw [this]; exact q3
    have qx := HXg.out
    have hnL : (n : Int) < (L : Int) := by omega
    have x2 : (x : Int) ≤ 255 := by omega
    have HCW : Hid (w0.heap.size ≤ w.heap.size) := HCw.out.size
    clear qf HXg HCw m2 mf2 hdn hdn2 hd f2 e11 e16
    generalize w.setCell ⟨r, 2, none⟩ (.int .i64 (256 * z)) = W at *
    refine wp_region_last (mk := fun u => #[_, _, _, _, _, _, _, _, _, _, _, _, _, _, _, _, _, _, _, _, _, _, _, _, _, _, u 26, u 27, u 28, u 29, u 30, u 31, u 32, u 33, u 34, u 35, u 36, u 37, u 38, u 39, u 40, u 41, u 42, u 43, u 44, u 45, _, _, _, _, _, _, _]) (F := fun slot vv ww => (look [(26, .val (.pointer (some ⟨r, 0, none⟩))), (27, .val (.pointer (some ⟨r, 0, none⟩))), (28, .val (.pointer (some ⟨r, 0, none⟩))), (29, .val (.pointer (some ⟨r, 3, none⟩))), (30, .val (.int .i64 c)), (31, .val (.int .i64 (256 * c))), (32, .val (.pointer (some ⟨r, 0, none⟩))), (33, .val (.pointer (some ⟨r, 0, none⟩))), (34, .val (.pointer (some ⟨r, 0, none⟩))), (35, .val (.slice (some ⟨g, 0, none⟩) L cap)), (36, .val (.pointer (some ⟨r, 0, none⟩))), (37, .val (.pointer (some ⟨r, 0, none⟩))), (38, .val (.pointer (some ⟨r, 1, none⟩))), (39, .val (.int .i64 (n : Int))), (40, .val (.pointer (some ⟨g, n, none⟩))), (41, .val (.int .u8 (x : Int))), (42, .val (.int .i64 (x : Int))), (43, .val (.int .i64 (256 * c + (x : Int)))), (44, .val (.pointer (some ⟨r, 0, none⟩))), (45, .val (.pointer (some ⟨r, 3, none⟩)))] slot).holds vv ww) (fun _ => undef) rfl (by kernel_rfl) 20 _ rfl rfl (by kernel_rfl) ?_ (fun _ v w w' hc h => Fact.stays _ v w w' hc h) ?_ ?_
    · repeat (refine ⟨⟨_, rfl, fun _ _ => rfl⟩, ?_⟩)
      exact trivial
    · refine ⟨?_, ?_, ?_, ?_, ?_, ?_, ?_, ?_, ?_, ?_, ?_, ?_, ?_, ?_, ?_, ?_, ?_, ?_, ?_, ?_, trivial⟩
      · intro u w hc hd K hK -- 26
        clear hd
        go_simp
        exact hK.out (.pointer (some ⟨r, 0, none⟩)) w (Chg.refl _ _) rfl
      · intro u w hc hd K hK -- 27
        clear hd
        go_simp
        exact hK.out (.pointer (some ⟨r, 0, none⟩)) w (Chg.refl _ _) rfl
      · intro u w hc hd K hK -- 28
        have h27 : (Fact.val (.pointer (some ⟨r, 0, none⟩))).holds (u 27) w := hd.get 1 (by kernel_rfl)
        simp only [Fact.holds] at h27
        clear hd
        simp only [h27] at hK
        go_simp
        exact hK.out (.pointer (some ⟨r, 0, none⟩)) w (Chg.refl _ _) rfl
      · intro u w hc hd K hK -- 29
        have h28 : (Fact.val (.pointer (some ⟨r, 0, none⟩))).holds (u 28) w := hd.get 2 (by kernel_rfl)
        simp only [Fact.holds] at h28
        clear hd
        simp only [h28] at hK
        go_simp
        exact hK.out (.pointer (some ⟨r, 3, none⟩)) w (Chg.refl _ _) rfl
      · intro u w hc hd K hK -- 30
        have h29 : (Fact.val (.pointer (some ⟨r, 3, none⟩))).holds (u 29) w := hd.get 3 (by kernel_rfl)
        simp only [Fact.holds] at h29
        clear hd
        simp only [h29] at hK
        have hcell := cell_chg q3 hc
        go_simp
        exact hK.out _ _ (Chg.refl _ _) rfl
      · intro u w hc hd K hK -- 31
        have h30 : (Fact.val (.int .i64 c)).holds (u 30) w := hd.get 4 (by kernel_rfl)
        simp only [Fact.holds] at h30
        clear hd
        simp only [h30] at hK
        go_simp
        first | exact hK.out (.int .i64 (256 * c)) w (Chg.refl _ _) rfl | (rw [wr64 (p := 256 * c) (by omega) (by omega)]; exact hK.out (.int .i64 (256 * c)) w (Chg.refl _ _) rfl)
      · intro u w hc hd K hK -- 32
        clear hd
        go_simp
        exact hK.out (.pointer (some ⟨r, 0, none⟩)) w (Chg.refl _ _) rfl
      · intro u w hc hd K hK -- 33
        have h32 : (Fact.val (.pointer (some ⟨r, 0, none⟩))).holds (u 32) w := hd.get 6 (by kernel_rfl)
        simp only [Fact.holds] at h32
        clear hd
        simp only [h32] at hK
        go_simp
        exact hK.out (.pointer (some ⟨r, 0, none⟩)) w (Chg.refl _ _) rfl
      · intro u w hc hd K hK -- 34
        have h33 : (Fact.val (.pointer (some ⟨r, 0, none⟩))).holds (u 33) w := hd.get 7 (by kernel_rfl)
        simp only [Fact.holds] at h33
        clear hd
        simp only [h33] at hK
        go_simp
        exact hK.out (.pointer (some ⟨r, 0, none⟩)) w (Chg.refl _ _) rfl
      · intro u w hc hd K hK -- 35
        have h34 : (Fact.val (.pointer (some ⟨r, 0, none⟩))).holds (u 34) w := hd.get 8 (by kernel_rfl)
        simp only [Fact.holds] at h34
        clear hd
        simp only [h34] at hK
        have hcell := cell_chg q0 hc
        go_simp
        exact hK.out _ _ (Chg.refl _ _) rfl
      · intro u w hc hd K hK -- 36
        clear hd
        go_simp
        exact hK.out (.pointer (some ⟨r, 0, none⟩)) w (Chg.refl _ _) rfl
      · intro u w hc hd K hK -- 37
        have h36 : (Fact.val (.pointer (some ⟨r, 0, none⟩))).holds (u 36) w := hd.get 10 (by kernel_rfl)
        simp only [Fact.holds] at h36
        clear hd
        simp only [h36] at hK
        go_simp
        exact hK.out (.pointer (some ⟨r, 0, none⟩)) w (Chg.refl _ _) rfl
      · intro u w hc hd K hK -- 38
        have h37 : (Fact.val (.pointer (some ⟨r, 0, none⟩))).holds (u 37) w := hd.get 11 (by kernel_rfl)
        simp only [Fact.holds] at h37
        clear hd
        simp only [h37] at hK
        go_simp
        exact hK.out (.pointer (some ⟨r, 1, none⟩)) w (Chg.refl _ _) rfl
      · intro u w hc hd K hK -- 39
        have h38 : (Fact.val (.pointer (some ⟨r, 1, none⟩))).holds (u 38) w := hd.get 12 (by kernel_rfl)
        simp only [Fact.holds] at h38
        clear hd
        simp only [h38] at hK
        have hcell := cell_chg q1 hc
        go_simp
        exact hK.out _ _ (Chg.refl _ _) rfl
      · intro u w hc hd K hK -- 40
        have h35 : (Fact.val (.slice (some ⟨g, 0, none⟩) L cap)).holds (u 35) w := hd.get 9 (by kernel_rfl)
        simp only [Fact.holds] at h35
        have h39 : (Fact.val (.int .i64 (n : Int))).holds (u 39) w := hd.get 13 (by kernel_rfl)
        simp only [Fact.holds] at h39
        clear hd
        simp only [h35, h39] at hK
        go_simp
        exact hK.out (.pointer (some ⟨g, n, none⟩)) w (Chg.refl _ _) rfl
      · intro u w hc hd K hK -- 41
        have h40 : (Fact.val (.pointer (some ⟨g, n, none⟩))).holds (u 40) w := hd.get 14 (by kernel_rfl)
        simp only [Fact.holds] at h40
        clear hd
        simp only [h40] at hK
        have hcell := cell_chg qx hc
        go_simp
        exact hK.out _ _ (Chg.refl _ _) rfl
      · intro u w hc hd K hK -- 42
        have h41 : (Fact.val (.int .u8 (x : Int))).holds (u 41) w := hd.get 15 (by kernel_rfl)
        simp only [Fact.holds] at h41
        clear hd
        simp only [h41] at hK
        go_simp
        first | exact hK.out (.int .i64 ((x : Int))) w (Chg.refl _ _) rfl | (rw [wr64 (p := (x : Int)) (by omega) (by omega)]; exact hK.out (.int .i64 ((x : Int))) w (Chg.refl _ _) rfl)
      · intro u w hc hd K hK -- 43
        have h31 : (Fact.val (.int .i64 (256 * c))).holds (u 31) w := hd.get 5 (by kernel_rfl)
        simp only [Fact.holds] at h31
        have h42 : (Fact.val (.int .i64 (x : Int))).holds (u 42) w := hd.get 16 (by kernel_rfl)
        simp only [Fact.holds] at h42
        clear hd
        simp only [h31, h42] at hK
        go_simp
        first | exact hK.out (.int .i64 (256 * c + (x : Int))) w (Chg.refl _ _) rfl | (rw [wr64 (p := 256 * c + (x : Int)) (by omega) (by omega)]; exact hK.out (.int .i64 (256 * c + (x : Int))) w (Chg.refl _ _) rfl)
      · intro u w hc hd K hK -- 44
        have h26 : (Fact.val (.pointer (some ⟨r, 0, none⟩))).holds (u 26) w := hd.get 0 (by kernel_rfl)
        simp only [Fact.holds] at h26
        clear hd
        simp only [h26] at hK
        go_simp
        exact hK.out (.pointer (some ⟨r, 0, none⟩)) w (Chg.refl _ _) rfl
      · intro u w hc hd K hK -- 45
        have h44 : (Fact.val (.pointer (some ⟨r, 0, none⟩))).holds (u 44) w := hd.get 18 (by kernel_rfl)
        simp only [Fact.holds] at h44
        clear hd
        simp only [h44] at hK
        go_simp
        exact hK.out (.pointer (some ⟨r, 3, none⟩)) w (Chg.refl _ _) rfl
    · intro u w hc hA K hK
      have e43 : u 43 = .int .i64 (256 * c + (x : Int)) := hA.at 43 (by kernel_rfl)
      have e45 : u 45 = .pointer (some ⟨r, 3, none⟩) := hA.at 45 (by kernel_rfl)
      clear hA
      have H3 := H2.out.new hc
      have y3 := (rcells4 H3.blk).2.2.2.1
      have yf3 := (rcells4 H3.blk).2.2.2.2 3
      obtain ⟨h4, cc4⟩ := H3.put 3 (256 * c + (x : Int)) ⟨d.n, 256 * d.R, 256 * d.C + bs.getD d.n 0⟩ (by have := HC0.out; have := HX0.out; simp only [List.set]; rw [show 256 * c + (x : Int) = ((256 * d.C + bs.getD d.n 0 : Nat) : Int) by omega])
      have y1 : (w.setCell ⟨r, 3, none⟩ (.int .i64 (256 * c + (x : Int)))).cell? ⟨r, 1, none⟩ = some (.int .i64 (n : Int)) := by rw [← HN0.out]; exact (rcells4 h4.blk).2.1
      have yf1 := (rcells4 h4.blk).2.2.2.2 1
      obtain ⟨h5, cc5⟩ := h4.put 1 ((n : Int) + 1) ⟨d.n + 1, 256 * d.R, 256 * d.C + bs.getD d.n 0⟩ (by have := HN0.out; simp only [List.set]; rw [show (n : Int) + 1 = ((d.n + 1 : Nat) : Int) by omega])
      have H5 : Hid (Rdc ((w.setCell ⟨r, 3, none⟩ (.int .i64 (256 * c + (x : Int)))).setCell ⟨r, 1, none⟩ (.int .i64 ((n : Int) + 1))) B r v bs ⟨d.n + 1, 256 * d.R, 256 * d.C + bs.getD d.n 0⟩) := h5
      have HC5 : Hid (Chg (fun z => z = r) w0 ((w.setCell ⟨r, 3, none⟩ (.int .i64 (256 * c + (x : Int)))).setCell ⟨r, 1, none⟩ (.int .i64 ((n : Int) + 1)))) := ((HC2.out.trans hc (fun _ f => f.elim)).trans cc4 (fun _ e => .inl e)).trans cc5 (fun _ e => .inl e)
      clear hc H3 h4 cc4 h5 cc5 q0 q1 q3 qx
      go_simp
      refine hK.out _ _ ?_
      clear hK
      go_wp2
      go_ret
      exact ⟨rfl, H5.out, HC5.out⟩
end Go.Proofs.Ytejopgopcocapaa
