/- Several texts in one, none of a statement by itself: RdA, RdB, RdC, Wk. -/
import Derived.Test.YtibgjpifmpljkaaBoundC
import Derived.Test.YtibgjpifmpljkaaRd
/- The document's decoder in memory ('Rdc') and the contracts of its Fork, Used and widen; of no statement by themselves. -/
namespace Go.Proofs.Ytibgjpifmpljkaa
open Go.RowKit
set_option linter.unusedVariables false

structure Rdc (w : World) (B r : Nat) (v : Value) (bs : List Nat) (d : Rc.D) : Prop where
  hr : B ≤ r
  blk : w.heap[r]? = some (.cells #[v, .int .i64 (d.n : Int), .int .i64 (d.R : Int), .int .i64 (d.C : Int)] 107 (0, 0))
  own : w.ownsRow B 5 1 v bs.length (ins .u8 (nums bs))
  dig : Rc.Dig bs
theorem Rdc.keep {w w' : World} {S : Nat → Prop} {B r : Nat} {v : Value} {bs : List Nat} {d : Rc.D} (h : Rdc w B r v bs d) (hc : Chg S w w') (h1 : ¬ S r) (h2 : ∀ g, v.ownBlock = some g → ¬ S g) : Rdc w' B r v bs d := ⟨h.hr, blk_keep h.blk hc h1, ownsRow_keep h.own hc h2, h.dig⟩
theorem Rdc.new {w w' : World} {B r : Nat} {v : Value} {bs : List Nat} {d : Rc.D} (h : Rdc w B r v bs d) (hc : Chg (fun _ => False) w w') : Rdc w' B r v bs d := h.keep hc (fun f => f) (fun _ _ f => f)
theorem Rdc.ne {w : World} {B r : Nat} {v : Value} {bs : List Nat} {d : Rc.D} (h : Rdc w B r v bs d) : v.ownBlock ≠ some r := fun e => by
  obtain ⟨cur, hcur⟩ := owns_blk h.own e
  exact ty_ne h.blk hcur (by decide)
theorem rcells4 {w : World} {a : Nat} {x0 x1 x2 x3 : Value} {t : TypeId} (h : w.heap[a]? = some (.cells #[x0, x1, x2, x3] t (0, 0))) : w.cell? ⟨a, 0, none⟩ = some x0 ∧ w.cell? ⟨a, 1, none⟩ = some x1 ∧ w.cell? ⟨a, 2, none⟩ = some x2 ∧ w.cell? ⟨a, 3, none⟩ = some x3 ∧ ∀ j, w.frozen? ⟨a, j, none⟩ = false :=
  ⟨by simp [World.cell?, h], by simp [World.cell?, h], by simp [World.cell?, h], by simp [World.cell?, h], fun j => by simp [World.frozen?, h]⟩
/-- Its numbers are written. -/
theorem Rdc.put {w : World} {B r : Nat} {v : Value} {bs : List Nat} {d : Rc.D} (h : Rdc w B r v bs d) (k : Nat) (q : Int) (d' : Rc.D) (hd : ([v, .int .i64 (d.n : Int), .int .i64 (d.R : Int), .int .i64 (d.C : Int)] : List Value).set k (.int .i64 q) = [v, .int .i64 (d'.n : Int), .int .i64 (d'.R : Int), .int .i64 (d'.C : Int)]) : Rdc (w.setCell ⟨r, k, none⟩ (.int .i64 q)) B r v bs d' ∧ Chg (fun z => z = r) w (w.setCell ⟨r, k, none⟩ (.int .i64 q)) := by
  have c1 : Chg (fun z => z = r) w (w.setCell ⟨r, k, none⟩ (.int .i64 q)) := (Chg.refl (fun z => z = r) w).setCell (p := ⟨r, k, none⟩) (.inl rfl) _
  have b1 := blk_setk (l := [v, .int .i64 (d.n : Int), .int .i64 (d.R : Int), .int .i64 (d.C : Int)]) h.blk k (.int .i64 q)
  rw [hd] at b1
  exact ⟨⟨h.hr, b1, ownsRow_keep h.own c1 (fun g e e2 => h.ne (by rw [← e2]; exact e)), h.dig⟩, c1⟩

theorem rdused_any (B r : Nat) (v : Value) (bs : List Nat) (d : Rc.D) (w : World) (h : Rdc w B r v bs d) : Calls Try.prog 34 #[.pointer (some ⟨r, 0, none⟩)] w fun e w' => e = .returned (.int .i64 (d.n : Int)) ∧ w = w' := by
  obtain ⟨_, k1, _, _, _⟩ := rcells4 h.blk
  clear h
  go_enter Try.func34, Try.ntmps34
  go_wp2
  go_ret
  exact ⟨rfl, rfl⟩

theorem rdfork_any (B r : Nat) (v : Value) (bs : List Nat) (d : Rc.D) (w : World) (h : Rdc w B r v bs d) (hB : B ≤ w.heap.size) : Calls Try.prog 92 #[.pointer (some ⟨r, 0, none⟩)] w fun e w' => ∃ f, e = .returned (.pointer (some ⟨f, 0, none⟩)) ∧ w.heap.size ≤ f ∧ Rdc w' B f v bs d ∧ Chg (fun _ => False) w w' := by
  obtain ⟨k0, k1, k2, k3, _⟩ := rcells4 h.blk
  obtain ⟨ad, cap, hv, _⟩ := own_any h.own
  have HH : Hid (Rdc w B r v bs d) := h
  subst hv
  clear h
  go_enter Try.func92, Try.ntmps92
  go_wp2
  go_ret
  have c1 := chg_one w (.cells #[.slice ad bs.length cap, .int .i64 (d.n : Int), .int .i64 (d.R : Int), .int .i64 (d.C : Int)] 107)
  exact ⟨_, rfl, Nat.le_refl _, ⟨hB, heap_alloc_last w _, ownsRow_keep HH.out.own c1 (fun _ _ f => f), HH.out.dig⟩, c1⟩

set_option maxHeartbeats 1000000 in
set_option maxRecDepth 100000 in
theorem rdwiden_no (B r : Nat) (v : Value) (bs : List Nat) (d : Rc.D) (w : World) (h : Rdc w B r v bs d) (hR : 16777216 ≤ d.R) : Calls Try.prog 93 #[.pointer (some ⟨r, 0, none⟩)] w fun e w' => e = .returned (.bool true) ∧ w = w' := by
  obtain ⟨_, _, k2, _, _⟩ := rcells4 h.blk
  obtain ⟨z, hz⟩ : ∃ z : Int, z = (d.R : Int) := ⟨_, rfl⟩
  have h1 : 16777216 ≤ z := by omega
  rw [← hz] at k2
  clear h hz hR
  go_enter Try.func93, Try.ntmps93
  go_wp2
  go_ret
  exact ⟨rfl, rfl⟩

set_option maxHeartbeats 1000000 in
set_option maxRecDepth 100000 in
theorem rdwiden_dry (B r : Nat) (v : Value) (bs : List Nat) (d : Rc.D) (w0 : World) (h : Rdc w0 B r v bs d) (hR : d.R < 16777216) (hn : d.n = bs.length) : Calls Try.prog 93 #[.pointer (some ⟨r, 0, none⟩)] w0 fun e w' => e = .returned (.bool false) ∧ Chg (fun _ => False) w0 w' := by
  obtain ⟨k0, k1, k2, _, _⟩ := rcells4 h.blk
  obtain ⟨ad, cap, hv, _⟩ := own_any h.own
  rw [hv, ← hn] at k0
  obtain ⟨z, hz⟩ : ∃ z : Int, z = (d.R : Int) := ⟨_, rfl⟩
  have h1 : z < 16777216 := by omega
  have hd : decide (16777216 ≤ z) = false := by simp; omega
  rw [← hz] at k2
  clear h hz hR hn
  obtain ⟨n, hn⟩ : ∃ n, d.n = n := ⟨_, rfl⟩
  rw [hn] at k0 k1
  obtain ⟨L, hL⟩ : ∃ L, n = L := ⟨_, rfl⟩
  have HL : Hid (n = L) := hL
  rw [hL] at k0
  clear hn hL hv
  go_enter Try.func93, Try.ntmps93
  go_wp2_with fail
  refine wp_region_last (mk := fun u => #[_, _, _, _, _, _, _, _, u 8, u 9, u 10, u 11, u 12, u 13, u 14, u 15, u 16, _, _, _, _, _, _, _, _, _, _, _, _, _, _, _, _, _, _, _, _, _, _, _, _, _, _, _, _, _, _, _, _, _, _, _, _]) (F := fun slot vv ww => (look [(8, .val (.pointer (some ⟨r, 0, none⟩))), (9, .val (.pointer (some ⟨r, 0, none⟩))), (10, .val (.pointer (some ⟨r, 1, none⟩))), (11, .val (.int .i64 (n : Int))), (12, .val (.pointer (some ⟨r, 0, none⟩))), (13, .val (.pointer (some ⟨r, 0, none⟩))), (14, .val (.pointer (some ⟨r, 0, none⟩))), (15, .val (.slice ad L cap)), (16, .val (.int .i64 (L : Int)))] slot).holds vv ww) (fun _ => undef) rfl (by kernel_rfl) 9 _ rfl rfl (by kernel_rfl) ?_ (fun _ v w w' hc h => Fact.stays _ v w w' hc h) ?_ ?_
  · repeat (refine ⟨⟨_, rfl, fun _ _ => rfl⟩, ?_⟩)
    exact trivial
  · refine ⟨?_, ?_, ?_, ?_, ?_, ?_, ?_, ?_, ?_, trivial⟩
    · intro u w hc hd K hK -- 8
      clear hd
      go_simp
      exact hK.out (.pointer (some ⟨r, 0, none⟩)) w (Chg.refl _ _) rfl
    · intro u w hc hd K hK -- 9
      have h8 : (Fact.val (.pointer (some ⟨r, 0, none⟩))).holds (u 8) w := hd.get 0 (by kernel_rfl)
      simp only [Fact.holds] at h8
      clear hd
      simp only [h8] at hK
      go_simp
      exact hK.out (.pointer (some ⟨r, 0, none⟩)) w (Chg.refl _ _) rfl
    · intro u w hc hd K hK -- 10
      have h9 : (Fact.val (.pointer (some ⟨r, 0, none⟩))).holds (u 9) w := hd.get 1 (by kernel_rfl)
      simp only [Fact.holds] at h9
      clear hd
      simp only [h9] at hK
      go_simp
      exact hK.out (.pointer (some ⟨r, 1, none⟩)) w (Chg.refl _ _) rfl
    · intro u w hc hd K hK -- 11
      have h10 : (Fact.val (.pointer (some ⟨r, 1, none⟩))).holds (u 10) w := hd.get 2 (by kernel_rfl)
      simp only [Fact.holds] at h10
      clear hd
      simp only [h10] at hK
      have hcell := cell_chg k1 hc
      go_simp
      exact hK.out _ _ (Chg.refl _ _) rfl
    · intro u w hc hd K hK -- 12
      clear hd
      go_simp
      exact hK.out (.pointer (some ⟨r, 0, none⟩)) w (Chg.refl _ _) rfl
    · intro u w hc hd K hK -- 13
      have h12 : (Fact.val (.pointer (some ⟨r, 0, none⟩))).holds (u 12) w := hd.get 4 (by kernel_rfl)
      simp only [Fact.holds] at h12
      clear hd
      simp only [h12] at hK
      go_simp
      exact hK.out (.pointer (some ⟨r, 0, none⟩)) w (Chg.refl _ _) rfl
    · intro u w hc hd K hK -- 14
      have h13 : (Fact.val (.pointer (some ⟨r, 0, none⟩))).holds (u 13) w := hd.get 5 (by kernel_rfl)
      simp only [Fact.holds] at h13
      clear hd
      simp only [h13] at hK
      go_simp
      exact hK.out (.pointer (some ⟨r, 0, none⟩)) w (Chg.refl _ _) rfl
    · intro u w hc hd K hK -- 15
      have h14 : (Fact.val (.pointer (some ⟨r, 0, none⟩))).holds (u 14) w := hd.get 6 (by kernel_rfl)
      simp only [Fact.holds] at h14
      clear hd
      simp only [h14] at hK
      have hcell := cell_chg k0 hc
      go_simp
      exact hK.out _ _ (Chg.refl _ _) rfl
    · intro u w hc hd K hK -- 16
      have h15 : (Fact.val (.slice ad L cap)).holds (u 15) w := hd.get 7 (by kernel_rfl)
      simp only [Fact.holds] at h15
      clear hd
      simp only [h15] at hK
      go_simp
      exact hK.out (.int .i64 (L : Int)) w (Chg.refl _ _) rfl
  · intro u w hc hA K hK
    have e11 : u 11 = .int .i64 (n : Int) := hA.at 11 (by kernel_rfl)
    have e16 : u 16 = .int .i64 (L : Int) := hA.at 16 (by kernel_rfl)
    clear hA
    have HC : Hid (Chg (fun _ => False) w0 w) := hc
    have hL := HL.out
    subst hL
    clear hc
    go_simp
    refine hK.out _ _ ?_
    go_simp
    go_wp2
    go_ret
    exact ⟨rfl, HC.out⟩

set_option maxHeartbeats 2000000 in
set_option maxRecDepth 100000 in
theorem rdwiden_yes (B r : Nat) (v : Value) (bs : List Nat) (d : Rc.D) (w0 : World) (h : Rdc w0 B r v bs d) (hR : d.R < 16777216) (hC : d.C < d.R) (hn : d.n < bs.length) (hl : bs.length ≤ 140737488355328) : Calls Try.prog 93 #[.pointer (some ⟨r, 0, none⟩)] w0 fun e w' => e = .returned (.bool true) ∧ Rdc w' B r v bs ⟨d.n + 1, 256 * d.R, 256 * d.C + bs.getD d.n 0⟩ ∧ Chg (fun z => z = r) w0 w' := by
  obtain ⟨k0, k1, k2, k3, kf⟩ := rcells4 h.blk
  obtain ⟨g, cap, hv, hlc, _, _, _, _, hcell⟩ := own_some h.own (by omega)
  have hxb : bs.getD d.n 0 < 256 := by rw [List.getD_eq_getElem?_getD, List.getElem?_eq_getElem hn]; exact h.dig _ (List.getElem_mem hn)
  have hx := hcell d.n (.int .u8 ((bs.getD d.n 0 : Nat) : Int)) (by simp [ins, nums, hn, List.getD])
  have HH : Hid (Rdc w0 B r v bs d) := h
  have HGR : Hid (g ≠ r) := fun e => h.ne (by rw [hv, e]; rfl)
  have HV : Hid (v = .slice (some ⟨g, 0, none⟩) bs.length cap) := hv
  rw [hv] at k0
  obtain ⟨x, hx0⟩ : ∃ x, bs.getD d.n 0 = x := ⟨_, rfl⟩
  have HX0 : Hid (bs.getD d.n 0 = x) := hx0
  rw [hx0] at hx hxb
  obtain ⟨n, hn0⟩ : ∃ n, d.n = n := ⟨_, rfl⟩
  have HN0 : Hid (d.n = n) := hn0
  rw [hn0] at hx k1 hn
  obtain ⟨z, hz⟩ : ∃ z : Int, z = (d.R : Int) := ⟨_, rfl⟩
  obtain ⟨c, hc0⟩ : ∃ c : Int, c = (d.C : Int) := ⟨_, rfl⟩
  have HZ : Hid (z = (d.R : Int)) := hz
  have HC0 : Hid (c = (d.C : Int)) := hc0
  have z1 : 0 ≤ z := by omega
  have z2 : z < 16777216 := by omega
  have c1 : 0 ≤ c := by omega
  have c2 : c < 16777216 := by omega
  have hd : decide (16777216 ≤ z) = false := by simp; omega
  rw [← hz] at k2
  rw [← hc0] at k3
  obtain ⟨L, hL⟩ : ∃ L, bs.length = L := ⟨_, rfl⟩
  have HLL : Hid (bs.length = L) := hL
  rw [hL] at k0 hn hlc hl
  have hdn : decide ((n : Int) = (L : Int)) = false := by simp; omega
  have hdn2 : ((n : Int) == (L : Int)) = false := by simp; omega
  have f2 := kf 2
  clear h hz hc0 hx0 hn0 hR hC hv hcell kf hL
  have ad_ : True := trivial
  go_enter Try.func93, Try.ntmps93
  go_wp2_with fail
  refine wp_region_last (mk := fun u => #[_, _, _, _, _, _, _, _, u 8, u 9, u 10, u 11, u 12, u 13, u 14, u 15, u 16, _, _, _, _, _, _, _, _, _, _, _, _, _, _, _, _, _, _, _, _, _, _, _, _, _, _, _, _, _, _, _, _, _, _, _, _]) (F := fun slot vv ww => (look [(8, .val (.pointer (some ⟨r, 0, none⟩))), (9, .val (.pointer (some ⟨r, 0, none⟩))), (10, .val (.pointer (some ⟨r, 1, none⟩))), (11, .val (.int .i64 (n : Int))), (12, .val (.pointer (some ⟨r, 0, none⟩))), (13, .val (.pointer (some ⟨r, 0, none⟩))), (14, .val (.pointer (some ⟨r, 0, none⟩))), (15, .val (.slice (some ⟨g, 0, none⟩) L cap)), (16, .val (.int .i64 (L : Int)))] slot).holds vv ww) (fun _ => undef) rfl (by kernel_rfl) 9 _ rfl rfl (by kernel_rfl) ?_ (fun _ v w w' hc h => Fact.stays _ v w w' hc h) ?_ ?_
  · repeat (refine ⟨⟨_, rfl, fun _ _ => rfl⟩, ?_⟩)
    exact trivial
  · refine ⟨?_, ?_, ?_, ?_, ?_, ?_, ?_, ?_, ?_, trivial⟩
    · intro u w hc hd K hK -- 8
      clear hd
      go_simp
      exact hK.out (.pointer (some ⟨r, 0, none⟩)) w (Chg.refl _ _) rfl
    · intro u w hc hd K hK -- 9
      have h8 : (Fact.val (.pointer (some ⟨r, 0, none⟩))).holds (u 8) w := hd.get 0 (by kernel_rfl)
      simp only [Fact.holds] at h8
      clear hd
      simp only [h8] at hK
      go_simp
      exact hK.out (.pointer (some ⟨r, 0, none⟩)) w (Chg.refl _ _) rfl
    · intro u w hc hd K hK -- 10
      have h9 : (Fact.val (.pointer (some ⟨r, 0, none⟩))).holds (u 9) w := hd.get 1 (by kernel_rfl)
      simp only [Fact.holds] at h9
      clear hd
      simp only [h9] at hK
      go_simp
      exact hK.out (.pointer (some ⟨r, 1, none⟩)) w (Chg.refl _ _) rfl
    · intro u w hc hd K hK -- 11
      have h10 : (Fact.val (.pointer (some ⟨r, 1, none⟩))).holds (u 10) w := hd.get 2 (by kernel_rfl)
      simp only [Fact.holds] at h10
      clear hd
      simp only [h10] at hK
      have hcell := cell_chg k1 hc
      go_simp
      exact hK.out _ _ (Chg.refl _ _) rfl
    · intro u w hc hd K hK -- 12
      clear hd
      go_simp
      exact hK.out (.pointer (some ⟨r, 0, none⟩)) w (Chg.refl _ _) rfl
    · intro u w hc hd K hK -- 13
      have h12 : (Fact.val (.pointer (some ⟨r, 0, none⟩))).holds (u 12) w := hd.get 4 (by kernel_rfl)
      simp only [Fact.holds] at h12
      clear hd
      simp only [h12] at hK
      go_simp
      exact hK.out (.pointer (some ⟨r, 0, none⟩)) w (Chg.refl _ _) rfl
    · intro u w hc hd K hK -- 14
      have h13 : (Fact.val (.pointer (some ⟨r, 0, none⟩))).holds (u 13) w := hd.get 5 (by kernel_rfl)
      simp only [Fact.holds] at h13
      clear hd
      simp only [h13] at hK
      go_simp
      exact hK.out (.pointer (some ⟨r, 0, none⟩)) w (Chg.refl _ _) rfl
    · intro u w hc hd K hK -- 15
      have h14 : (Fact.val (.pointer (some ⟨r, 0, none⟩))).holds (u 14) w := hd.get 6 (by kernel_rfl)
      simp only [Fact.holds] at h14
      clear hd
      simp only [h14] at hK
      have hcell := cell_chg k0 hc
      go_simp
      exact hK.out _ _ (Chg.refl _ _) rfl
    · intro u w hc hd K hK -- 16
      have h15 : (Fact.val (.slice (some ⟨g, 0, none⟩) L cap)).holds (u 15) w := hd.get 7 (by kernel_rfl)
      simp only [Fact.holds] at h15
      clear hd
      simp only [h15] at hK
      go_simp
      exact hK.out (.int .i64 (L : Int)) w (Chg.refl _ _) rfl
  · intro u w hc hA K hK
    have e11 : u 11 = .int .i64 (n : Int) := hA.at 11 (by kernel_rfl)
    have e16 : u 16 = .int .i64 (L : Int) := hA.at 16 (by kernel_rfl)
    clear hA
    have H1 := HH.out.new hc
    have HCw : Hid (Chg (fun _ => False) w0 w) := hc
    have m2 := cell_chg k2 hc
    have mf2 := (rcells4 H1.blk).2.2.2.2 2
    obtain ⟨h2, cc2⟩ := H1.put 2 (256 * z) ⟨d.n, 256 * d.R, d.C⟩ (by have := HZ.out; simp only [List.set]; rw [show 256 * z = ((256 * d.R : Nat) : Int) by omega])
    have H2 : Hid (Rdc (w.setCell ⟨r, 2, none⟩ (.int .i64 (256 * z))) B r v bs ⟨d.n, 256 * d.R, d.C⟩) := h2
    have HC2 : Hid (Chg (fun z => z = r) w0 (w.setCell ⟨r, 2, none⟩ (.int .i64 (256 * z)))) := (hc.mono (fun _ f => f.elim)).trans cc2 (fun _ e => .inl e)
    have HXg : Hid ((w.setCell ⟨r, 2, none⟩ (.int .i64 (256 * z))).cell? ⟨g, n, none⟩ = some (.int .u8 (x : Int))) := by
      have hx2 := cell_chg hx HCw.out
      rw [World.cell?_of_block (w := w) (cc2.block _ (World.block_lt_of_cell? w _ hx2) (fun e => ?_))]
      · exact hx2
      · exact HGR.out e
    clear hc H1 h2 cc2 k0 k1 k2 k3 hx
    go_simp
    refine hK.out _ _ ?_
    clear hK
    go_wp2_with fail
    obtain ⟨q0, q1, _, q3, qf⟩ := rcells4 H2.out.blk
    rw [HV.out, HLL.out] at q0
    replace q1 : (w.setCell ⟨r, 2, none⟩ (.int .i64 (256 * z))).cell? ⟨r, 1, none⟩ = some (.int .i64 (n : Int)) := by rw [← HN0.out]; exact q1
    replace q3 : (w.setCell ⟨r, 2, none⟩ (.int .i64 (256 * z))).cell? ⟨r, 3, none⟩ = some (.int .i64 c) := by have := HC0.out; rw [this]; exact q3
    have qx := HXg.out
    have hnL : (n : Int) < (L : Int) := by omega
    have x2 : (x : Int) ≤ 255 := by omega
    have HCW : Hid (w0.heap.size ≤ w.heap.size) := HCw.out.size
    clear qf HXg HCw m2 mf2 hdn hdn2 hd f2 e11 e16
    generalize w.setCell ⟨r, 2, none⟩ (.int .i64 (256 * z)) = W at *
    refine wp_region_last (mk := fun u => #[_, _, _, _, _, _, _, _, _, _, _, _, _, _, _, _, _, _, _, _, _, _, _, _, _, _, u 26, u 27, u 28, u 29, u 30, u 31, u 32, u 33, u 34, u 35, u 36, u 37, u 38, u 39, u 40, u 41, u 42, u 43, u 44, u 45, _, _, _, _, _, _, _]) (F := fun slot vv ww => (look [(26, .val (.pointer (some ⟨r, 0, none⟩))), (27, .val (.pointer (some ⟨r, 0, none⟩))), (28, .val (.pointer (some ⟨r, 0, none⟩))), (29, .val (.pointer (some ⟨r, 3, none⟩))), (30, .val (.int .i64 c)), (31, .val (.int .i64 (256 * c))), (32, .val (.pointer (some ⟨r, 0, none⟩))), (33, .val (.pointer (some ⟨r, 0, none⟩))), (34, .val (.pointer (some ⟨r, 0, none⟩))), (35, .val (.slice (some ⟨g, 0, none⟩) L cap)), (36, .val (.pointer (some ⟨r, 0, none⟩))), (37, .val (.pointer (some ⟨r, 0, none⟩))), (38, .val (.pointer (some ⟨r, 1, none⟩))), (39, .val (.int .i64 (n : Int))), (40, .val (.pointer (some ⟨g, n, none⟩))), (41, .val (.int .u8 (x : Int))), (42, .val (.int .i64 (x : Int))), (43, .val (.int .i64 (256 * c + (x : Int)))), (44, .val (.pointer (some ⟨r, 0, none⟩))), (45, .val (.pointer (some ⟨r, 3, none⟩)))] slot).holds vv ww) (fun _ => undef) rfl (by kernel_rfl) 20 _ rfl rfl (by kernel_rfl) ?_ (fun _ v w w' hc h => Fact.stays _ v w w' hc h) ?_ ?_
    · repeat (refine ⟨⟨_, rfl, fun _ _ => rfl⟩, ?_⟩)
      exact trivial
    · refine ⟨?_, ?_, ?_, ?_, ?_, ?_, ?_, ?_, ?_, ?_, ?_, ?_, ?_, ?_, ?_, ?_, ?_, ?_, ?_, ?_, trivial⟩
      · intro u w hc hd K hK -- 26
        clear hd
        go_simp
        exact hK.out (.pointer (some ⟨r, 0, none⟩)) w (Chg.refl _ _) rfl
      · intro u w hc hd K hK -- 27
        clear hd
        go_simp
        exact hK.out (.pointer (some ⟨r, 0, none⟩)) w (Chg.refl _ _) rfl
      · intro u w hc hd K hK -- 28
        have h27 : (Fact.val (.pointer (some ⟨r, 0, none⟩))).holds (u 27) w := hd.get 1 (by kernel_rfl)
        simp only [Fact.holds] at h27
        clear hd
        simp only [h27] at hK
        go_simp
        exact hK.out (.pointer (some ⟨r, 0, none⟩)) w (Chg.refl _ _) rfl
      · intro u w hc hd K hK -- 29
        have h28 : (Fact.val (.pointer (some ⟨r, 0, none⟩))).holds (u 28) w := hd.get 2 (by kernel_rfl)
        simp only [Fact.holds] at h28
        clear hd
        simp only [h28] at hK
        go_simp
        exact hK.out (.pointer (some ⟨r, 3, none⟩)) w (Chg.refl _ _) rfl
      · intro u w hc hd K hK -- 30
        have h29 : (Fact.val (.pointer (some ⟨r, 3, none⟩))).holds (u 29) w := hd.get 3 (by kernel_rfl)
        simp only [Fact.holds] at h29
        clear hd
        simp only [h29] at hK
        have hcell := cell_chg q3 hc
        go_simp
        exact hK.out _ _ (Chg.refl _ _) rfl
      · intro u w hc hd K hK -- 31
        have h30 : (Fact.val (.int .i64 c)).holds (u 30) w := hd.get 4 (by kernel_rfl)
        simp only [Fact.holds] at h30
        clear hd
        simp only [h30] at hK
        go_simp
        first | exact hK.out (.int .i64 (256 * c)) w (Chg.refl _ _) rfl | (rw [wr64 (p := 256 * c) (by omega) (by omega)]; exact hK.out (.int .i64 (256 * c)) w (Chg.refl _ _) rfl)
      · intro u w hc hd K hK -- 32
        clear hd
        go_simp
        exact hK.out (.pointer (some ⟨r, 0, none⟩)) w (Chg.refl _ _) rfl
      · intro u w hc hd K hK -- 33
        have h32 : (Fact.val (.pointer (some ⟨r, 0, none⟩))).holds (u 32) w := hd.get 6 (by kernel_rfl)
        simp only [Fact.holds] at h32
        clear hd
        simp only [h32] at hK
        go_simp
        exact hK.out (.pointer (some ⟨r, 0, none⟩)) w (Chg.refl _ _) rfl
      · intro u w hc hd K hK -- 34
        have h33 : (Fact.val (.pointer (some ⟨r, 0, none⟩))).holds (u 33) w := hd.get 7 (by kernel_rfl)
        simp only [Fact.holds] at h33
        clear hd
        simp only [h33] at hK
        go_simp
        exact hK.out (.pointer (some ⟨r, 0, none⟩)) w (Chg.refl _ _) rfl
      · intro u w hc hd K hK -- 35
        have h34 : (Fact.val (.pointer (some ⟨r, 0, none⟩))).holds (u 34) w := hd.get 8 (by kernel_rfl)
        simp only [Fact.holds] at h34
        clear hd
        simp only [h34] at hK
        have hcell := cell_chg q0 hc
        go_simp
        exact hK.out _ _ (Chg.refl _ _) rfl
      · intro u w hc hd K hK -- 36
        clear hd
        go_simp
        exact hK.out (.pointer (some ⟨r, 0, none⟩)) w (Chg.refl _ _) rfl
      · intro u w hc hd K hK -- 37
        have h36 : (Fact.val (.pointer (some ⟨r, 0, none⟩))).holds (u 36) w := hd.get 10 (by kernel_rfl)
        simp only [Fact.holds] at h36
        clear hd
        simp only [h36] at hK
        go_simp
        exact hK.out (.pointer (some ⟨r, 0, none⟩)) w (Chg.refl _ _) rfl
      · intro u w hc hd K hK -- 38
        have h37 : (Fact.val (.pointer (some ⟨r, 0, none⟩))).holds (u 37) w := hd.get 11 (by kernel_rfl)
        simp only [Fact.holds] at h37
        clear hd
        simp only [h37] at hK
        go_simp
        exact hK.out (.pointer (some ⟨r, 1, none⟩)) w (Chg.refl _ _) rfl
      · intro u w hc hd K hK -- 39
        have h38 : (Fact.val (.pointer (some ⟨r, 1, none⟩))).holds (u 38) w := hd.get 12 (by kernel_rfl)
        simp only [Fact.holds] at h38
        clear hd
        simp only [h38] at hK
        have hcell := cell_chg q1 hc
        go_simp
        exact hK.out _ _ (Chg.refl _ _) rfl
      · intro u w hc hd K hK -- 40
        have h35 : (Fact.val (.slice (some ⟨g, 0, none⟩) L cap)).holds (u 35) w := hd.get 9 (by kernel_rfl)
        simp only [Fact.holds] at h35
        have h39 : (Fact.val (.int .i64 (n : Int))).holds (u 39) w := hd.get 13 (by kernel_rfl)
        simp only [Fact.holds] at h39
        clear hd
        simp only [h35, h39] at hK
        go_simp
        exact hK.out (.pointer (some ⟨g, n, none⟩)) w (Chg.refl _ _) rfl
      · intro u w hc hd K hK -- 41
        have h40 : (Fact.val (.pointer (some ⟨g, n, none⟩))).holds (u 40) w := hd.get 14 (by kernel_rfl)
        simp only [Fact.holds] at h40
        clear hd
        simp only [h40] at hK
        have hcell := cell_chg qx hc
        go_simp
        exact hK.out _ _ (Chg.refl _ _) rfl
      · intro u w hc hd K hK -- 42
        have h41 : (Fact.val (.int .u8 (x : Int))).holds (u 41) w := hd.get 15 (by kernel_rfl)
        simp only [Fact.holds] at h41
        clear hd
        simp only [h41] at hK
        go_simp
        first | exact hK.out (.int .i64 ((x : Int))) w (Chg.refl _ _) rfl | (rw [wr64 (p := (x : Int)) (by omega) (by omega)]; exact hK.out (.int .i64 ((x : Int))) w (Chg.refl _ _) rfl)
      · intro u w hc hd K hK -- 43
        have h31 : (Fact.val (.int .i64 (256 * c))).holds (u 31) w := hd.get 5 (by kernel_rfl)
        simp only [Fact.holds] at h31
        have h42 : (Fact.val (.int .i64 (x : Int))).holds (u 42) w := hd.get 16 (by kernel_rfl)
        simp only [Fact.holds] at h42
        clear hd
        simp only [h31, h42] at hK
        go_simp
        first | exact hK.out (.int .i64 (256 * c + (x : Int))) w (Chg.refl _ _) rfl | (rw [wr64 (p := 256 * c + (x : Int)) (by omega) (by omega)]; exact hK.out (.int .i64 (256 * c + (x : Int))) w (Chg.refl _ _) rfl)
      · intro u w hc hd K hK -- 44
        have h26 : (Fact.val (.pointer (some ⟨r, 0, none⟩))).holds (u 26) w := hd.get 0 (by kernel_rfl)
        simp only [Fact.holds] at h26
        clear hd
        simp only [h26] at hK
        go_simp
        exact hK.out (.pointer (some ⟨r, 0, none⟩)) w (Chg.refl _ _) rfl
      · intro u w hc hd K hK -- 45
        have h44 : (Fact.val (.pointer (some ⟨r, 0, none⟩))).holds (u 44) w := hd.get 18 (by kernel_rfl)
        simp only [Fact.holds] at h44
        clear hd
        simp only [h44] at hK
        go_simp
        exact hK.out (.pointer (some ⟨r, 3, none⟩)) w (Chg.refl _ _) rfl
    · intro u w hc hA K hK
      have e43 : u 43 = .int .i64 (256 * c + (x : Int)) := hA.at 43 (by kernel_rfl)
      have e45 : u 45 = .pointer (some ⟨r, 3, none⟩) := hA.at 45 (by kernel_rfl)
      clear hA
      have H3 := H2.out.new hc
      have y3 := (rcells4 H3.blk).2.2.2.1
      have yf3 := (rcells4 H3.blk).2.2.2.2 3
      obtain ⟨h4, cc4⟩ := H3.put 3 (256 * c + (x : Int)) ⟨d.n, 256 * d.R, 256 * d.C + bs.getD d.n 0⟩ (by have := HC0.out; have := HX0.out; simp only [List.set]; rw [show 256 * c + (x : Int) = ((256 * d.C + bs.getD d.n 0 : Nat) : Int) by omega])
      have y1 : (w.setCell ⟨r, 3, none⟩ (.int .i64 (256 * c + (x : Int)))).cell? ⟨r, 1, none⟩ = some (.int .i64 (n : Int)) := by rw [← HN0.out]; exact (rcells4 h4.blk).2.1
      have yf1 := (rcells4 h4.blk).2.2.2.2 1
      obtain ⟨h5, cc5⟩ := h4.put 1 ((n : Int) + 1) ⟨d.n + 1, 256 * d.R, 256 * d.C + bs.getD d.n 0⟩ (by have := HN0.out; simp only [List.set]; rw [show (n : Int) + 1 = ((d.n + 1 : Nat) : Int) by omega])
      have H5 : Hid (Rdc ((w.setCell ⟨r, 3, none⟩ (.int .i64 (256 * c + (x : Int)))).setCell ⟨r, 1, none⟩ (.int .i64 ((n : Int) + 1))) B r v bs ⟨d.n + 1, 256 * d.R, 256 * d.C + bs.getD d.n 0⟩) := h5
      have HC5 : Hid (Chg (fun z => z = r) w0 ((w.setCell ⟨r, 3, none⟩ (.int .i64 (256 * c + (x : Int)))).setCell ⟨r, 1, none⟩ (.int .i64 ((n : Int) + 1)))) := ((HC2.out.trans hc (fun _ f => f.elim)).trans cc4 (fun _ e => .inl e)).trans cc5 (fun _ e => .inl e)
      clear hc H3 h4 cc4 h5 cc5 q0 q1 q3 qx
      go_simp
      refine hK.out _ _ ?_
      clear hK
      go_wp2
      go_ret
      exact ⟨rfl, H5.out, HC5.out⟩
end Go.Proofs.Ytibgjpifmpljkaa

/- The contract of the document's Bit; of no statement by itself. -/
namespace Go.Proofs.Ytibgjpifmpljkaa
open Go.RowKit
set_option linter.unusedVariables false

theorem rdwiden_any (B r : Nat) (v : Value) (bs : List Nat) (d : Rc.D) (w : World) (h : Rdc w B r v bs d) (hC : d.C < d.R) (hn : d.n ≤ bs.length) (hl : bs.length ≤ 140737488355328) : Calls Try.prog 93 #[.pointer (some ⟨r, 0, none⟩)] w fun e w' => (∃ d', Rc.widenD bs d = some d' ∧ e = .returned (.bool true) ∧ Rdc w' B r v bs d' ∧ Chg (fun z => z = r) w w') ∨ (Rc.widenD bs d = none ∧ e = .returned (.bool false) ∧ Chg (fun _ => False) w w') := by
  unfold Rc.widenD
  by_cases hR : d.R < 16777216
  · rw [if_pos hR]
    by_cases hlt : d.n < bs.length
    · rw [if_pos hlt]
      exact (rdwiden_yes B r v bs d w h hR hC hlt hl).mono fun e w' ⟨h1, h2, h3⟩ => .inl ⟨_, rfl, h1, h2, h3⟩
    · rw [if_neg hlt]
      exact (rdwiden_dry B r v bs d w h hR (by omega)).mono fun e w' ⟨h1, h2⟩ => .inr ⟨rfl, h1, h2⟩
  · rw [if_neg hR]
    exact (rdwiden_no B r v bs d w h (by omega)).mono fun e w' ⟨h1, h2⟩ => .inl ⟨d, rfl, h1, by rw [← h2]; exact h, by rw [← h2]; exact Chg.refl _ _⟩

/-- Another one's numbers are taken over. -/
theorem Rdc.copy {w : World} {B r L cap : Nat} {ad : Option Addr} {bs : List Nat} {d d' : Rc.D} (h : Rdc w B r (.slice ad L cap) bs d) (n R C : Int) (hn : n = (d'.n : Int)) (hR : R = (d'.R : Int)) (hC : C = (d'.C : Int)) :
    Rdc ((((w.setCell ⟨r, 0, none⟩ (.slice ad L cap)).setCell ⟨r, 1, none⟩ (.int .i64 n)).setCell ⟨r, 2, none⟩ (.int .i64 R)).setCell ⟨r, 3, none⟩ (.int .i64 C)) B r (.slice ad L cap) bs d' ∧ Chg (fun z => z = r) w ((((w.setCell ⟨r, 0, none⟩ (.slice ad L cap)).setCell ⟨r, 1, none⟩ (.int .i64 n)).setCell ⟨r, 2, none⟩ (.int .i64 R)).setCell ⟨r, 3, none⟩ (.int .i64 C)) := by
  have c1 : Chg (fun z => z = r) w ((((w.setCell ⟨r, 0, none⟩ (.slice ad L cap)).setCell ⟨r, 1, none⟩ (.int .i64 n)).setCell ⟨r, 2, none⟩ (.int .i64 R)).setCell ⟨r, 3, none⟩ (.int .i64 C)) := ((((Chg.refl (fun z => z = r) w).setCell (p := ⟨r, 0, none⟩) (.inl rfl) _).setCell (p := ⟨r, 1, none⟩) (.inl rfl) _).setCell (p := ⟨r, 2, none⟩) (.inl rfl) _).setCell (p := ⟨r, 3, none⟩) (.inl rfl) _
  have b1 := blk_setk (l := [.slice ad L cap, .int .i64 (d.n : Int), .int .i64 (d.R : Int), .int .i64 (d.C : Int)]) h.blk 0 (.slice ad L cap)
  have b2 := blk_setk (l := [.slice ad L cap, .int .i64 (d.n : Int), .int .i64 (d.R : Int), .int .i64 (d.C : Int)]) b1 1 (.int .i64 n)
  have b3 := blk_setk (l := [.slice ad L cap, .int .i64 n, .int .i64 (d.R : Int), .int .i64 (d.C : Int)]) b2 2 (.int .i64 R)
  have b4 := blk_setk (l := [.slice ad L cap, .int .i64 n, .int .i64 R, .int .i64 (d.C : Int)]) b3 3 (.int .i64 C)
  refine ⟨⟨h.hr, ?_, ownsRow_keep h.own c1 (fun g e e2 => h.ne (by rw [← e2]; exact e)), h.dig⟩, c1⟩
  rw [← hn, ← hR, ← hC]
  exact b4
structure OkD (bs : List Nat) (d : Rc.D) : Prop where
  lo : 16777216 ≤ d.R
  hi : d.R ≤ 4294967295
  lt : d.C < d.R
  n : d.n ≤ bs.length

theorem rdbit_out (B' s : Nat) (m : Int) (t rv : Value) (xs : List Int) (i : Int) (w : World) (hS : Rt w B' s m t xs) (hi : i < 0 ∨ (xs.length : Int) ≤ i) :
    Calls Try.prog 62 #[rv, .pointer (some ⟨s, 0, none⟩), .int .i64 i] w fun x w' => x = .returned (.tuple #[.int .i64 0, .int .i64 7]) ∧ w = w' := by
  go_enter Try.func62, Try.ntmps62
  go_wp2_with fail
  refine (rat_out B' s m t xs i _ hS hi).mono ?_
  rintro x w1 ⟨rfl, rfl⟩
  go_wp2
  go_ret2
  exact ⟨rfl, rfl⟩

def bt (one : Bool) : Int := if one then 1 else 0

set_option maxHeartbeats 4000000 in
set_option maxRecDepth 100000 in
theorem rdbit_in (B B' r s : Nat) (m : Int) (v t : Value) (xs : List Int) (j : Nat) (bs : List Nat) (d : Rc.D) (w0 : World) (h : Rdc w0 B r v bs d) (hO : OkD bs d) (hS : Rt w0 B' s m t xs) (hI : In31 xs) (hj : j < xs.length) (hl : bs.length ≤ 140737488355328) (hB : B ≤ w0.heap.size) :
    Calls Try.prog 62 #[.pointer (some ⟨r, 0, none⟩), .pointer (some ⟨s, 0, none⟩), .int .i64 j] w0 fun x w' =>
      (∃ d', Rc.cutD bs d (d.R / 2048 * xs[j].toNat) = some d' ∧ x = .returned (.tuple #[.int .i64 (bt (Rc.oneD d (d.R / 2048 * xs[j].toNat))), .int .i64 0]) ∧ Rdc w' B r v bs d' ∧ Rt w' B' s m t (xs.set j (Prob.nx xs[j] (bt (Rc.oneD d (d.R / 2048 * xs[j].toNat))))) ∧ Chg (fun z => z = r ∨ t.ownBlock = some z) w0 w')
      ∨ (Rc.cutD bs d (d.R / 2048 * xs[j].toNat) = none ∧ x = .returned (.tuple #[.int .i64 0, .int .i64 1]) ∧ Chg (fun _ => False) w0 w') := by
  have hp := hI.at j hj
  have hbn := bo_nat (R := d.R) hp.1 hp.2
  have hbb := Rc.bound_in (R := d.R) (p := xs[j].toNat) hO.lo (by omega) (by omega)
  obtain ⟨bb, hbv⟩ : ∃ bb, d.R / 2048 * xs[j].toNat = bb := ⟨_, rfl⟩
  have HBV0 : Hid (d.R / 2048 * xs[j].toNat = bb) := hbv
  rw [hbv] at hbn hbb
  have hhi := hO.hi
  have hlt := hO.lt
  have hlo := hO.lo
  have HBV : Hid (65536 ≤ bb ∧ bb + 65536 ≤ d.R ∧ d.C < d.R) := ⟨hbb.1, hbb.2, hlt⟩
  have HDN : Hid (d.n ≤ bs.length) := hO.n
  have HS : Hid (Rt w0 B' s m t xs) := hS
  have HJ : Hid (j < xs.length) := hj
  have HIN : Hid (In xs) := hI.inn
  obtain ⟨ad, cap, hv, _⟩ := own_any h.own
  obtain ⟨L, hL⟩ : ∃ L, bs.length = L := ⟨_, rfl⟩
  rw [hL] at hv
  have HVV : Hid (v = .slice ad L cap) := hv
  rw [hv] at h
  have HH : Hid (Rdc w0 B r (.slice ad L cap) bs d) := h
  have k2 := (rcells4 h.blk).2.2.1
  obtain ⟨z, hz⟩ : ∃ z : Int, z = (d.R : Int) := ⟨_, rfl⟩
  obtain ⟨zc, hzc⟩ : ∃ z : Int, z = (d.C : Int) := ⟨_, rfl⟩
  have HZ : Hid (z = (d.R : Int)) := hz
  have HZC : Hid (zc = (d.C : Int)) := hzc
  have z1 : 16777216 ≤ z := by omega
  have z2 : z ≤ 4294967295 := by omega
  have zc1 : 0 ≤ zc := by omega
  have zc2 : zc < z := by omega
  have b1 : (65536 : Int) ≤ (bb : Int) := by omega
  have b2 : (bb : Int) ≤ z := by omega
  rw [← hz] at k2 hbn
  have HPI : Hid (I64 xs[j]) := ⟨by omega, by omega⟩
  obtain ⟨p, hp0⟩ : ∃ p : Int, p = xs[j] := ⟨_, rfl⟩
  have hbp : Prob.bo z p = (bb : Int) := by rw [hp0]; exact hbn
  have HAt : Hid (∀ w2, w2 = w0 → Calls Try.prog 83 #[.pointer (some ⟨s, 0, none⟩), .int .i64 j] w2 fun x w' => x = .returned (.tuple #[.int .i64 p, .int .i64 0]) ∧ w2 = w') := fun w2 e2 => by
    subst e2
    rw [hp0]
    exact rat_in B' s m t xs j _ hS hj
  have HBd : Hid (∀ w2, Calls Try.prog 85 #[.int .u32 z, .int .i64 p] w2 fun x w' => x = .returned (.int .u32 (bb : Int)) ∧ w2 = w') := fun w2 => by
    have := rBound_any z p w2 ⟨by omega, by omega⟩ (by rw [hp0]; exact HPI.out)
    rw [hbp] at this
    exact this
  have hwu : IntKind.u32.wrap z = z := by simp [IntKind.wrap, IntKind.signed, IntKind.bits]; omega
  have hwi : IntKind.i64.wrap (bb : Int) = (bb : Int) := wr64 (by omega) (by omega)
  clear h hS hp hbn hbp hbb hz hzc hp0 hv hlo hhi hlt hO hbv hI
  go_enter Try.func62, Try.ntmps62
  go_wp2_with fail
  refine (HAt.out _ rfl).mono ?_
  rintro x w1 ⟨rfl, rfl⟩
  go_wp2_with fail
  refine (HBd.out _).mono ?_
  rintro x w1 ⟨rfl, rfl⟩
  clear HAt HBd k2
  go_wp2_with fail
  refine (rdfork_any B r (.slice ad L cap) bs d _ HH.out hB).mono ?_
  rintro x w2 ⟨f, rfl, hf, hF, c2⟩
  have HF : Hid (Rdc w2 B f (.slice ad L cap) bs d) := hF
  have HC2 : Hid (Chg (fun _ => False) w0 w2) := c2
  have HFN : Hid (w0.heap.size ≤ f) := hf
  obtain ⟨_, _, fk2, fk3, fkf⟩ := rcells4 hF.blk
  have ff2 := fkf 2
  have ff3 := fkf 3
  replace fk2 : w2.cell? ⟨f, 2, none⟩ = some (.int .i64 z) := by have := HZ.out; rw [this]; exact fk2
  replace fk3 : w2.cell? ⟨f, 3, none⟩ = some (.int .i64 zc) := by have := HZC.out; rw [this]; exact fk3
  clear hF c2 hf fkf hwu hwi
  by_cases hcb : zc < (bb : Int)
  · skip
    have HPT : Hid (Rc.partD d bb = ⟨d.n, bb, d.C⟩) := by show Rc.partD d bb = _; unfold Rc.partD; rw [if_neg (by have := HZC.out; omega)]
    have HON : Hid (Rc.oneD d bb = false) := by show decide (bb ≤ d.C) = false; have := HZC.out; simp; omega
    obtain ⟨hp1, cp1⟩ := HF.out.put 2 (bb : Int) ⟨d.n, bb, d.C⟩ rfl
    have HP : Hid (Rdc (w2.setCell ⟨f, 2, none⟩ (.int .i64 (bb : Int))) B f (.slice ad L cap) bs ⟨d.n, bb, d.C⟩) := hp1
    have HCP : Hid (Chg (fun z => z = f) w2 (w2.setCell ⟨f, 2, none⟩ (.int .i64 (bb : Int)))) := cp1
    clear hp1 cp1
    clear HF
    go_wp2_with fail
    refine (rdwiden_any B f (.slice ad L cap) bs ⟨d.n, bb, d.C⟩ _ HP.out (by show d.C < bb; have := HZC.out; omega) HDN.out hl).mono ?_
    rintro x w4 (⟨d', hd', rfl, h4, c4⟩ | ⟨hd', rfl, c4⟩)
    · have HCUT : Hid (Rc.cutD bs d bb = some d') := by show Rc.cutD bs d bb = _; unfold Rc.cutD; rw [HPT.out]; exact hd'
      have C4 : Chg (fun _ => False) w0 w4 := (HC2.out.trans HCP.out (fun z e => .inr (by have := HFN.out; omega))).trans c4 (fun z e => .inr (by have := HFN.out; omega))
      have HR4 := HH.out.new C4
      have HS4 := HS.out.new C4
      obtain ⟨y0, y1, y2, y3, _⟩ := rcells4 h4.blk
      obtain ⟨x0, x1, x2, x3, xf⟩ := rcells4 HR4.blk
      have xf0 := xf 0
      have xf1 := xf 1
      have xf2 := xf 2
      have xf3 := xf 3
      obtain ⟨hc5, cc5⟩ := HR4.copy (d' := d') (d'.n : Int) (d'.R : Int) (d'.C : Int) rfl rfl rfl
      have H5 : Hid (Rdc ((((w4.setCell ⟨r, 0, none⟩ (.slice ad L cap)).setCell ⟨r, 1, none⟩ (.int .i64 (d'.n : Int))).setCell ⟨r, 2, none⟩ (.int .i64 (d'.R : Int))).setCell ⟨r, 3, none⟩ (.int .i64 (d'.C : Int))) B r (.slice ad L cap) bs d') := hc5
      have S5 := HS4.keep cc5 (fun e => by have h1 := HS4.blk; rw [e] at h1; exact ty_ne h1 HR4.blk (by decide)) (fun g e e2 => by obtain ⟨cur, hcur⟩ := owns_blk HS4.own e; rw [e2] at hcur; exact ty_ne hcur HR4.blk (by decide))
      have HS5 : Hid (Rt ((((w4.setCell ⟨r, 0, none⟩ (.slice ad L cap)).setCell ⟨r, 1, none⟩ (.int .i64 (d'.n : Int))).setCell ⟨r, 2, none⟩ (.int .i64 (d'.R : Int))).setCell ⟨r, 3, none⟩ (.int .i64 (d'.C : Int))) B' s m t xs) := S5
      have HC5 : Hid (Chg (fun z => z = r) w0 ((((w4.setCell ⟨r, 0, none⟩ (.slice ad L cap)).setCell ⟨r, 1, none⟩ (.int .i64 (d'.n : Int))).setCell ⟨r, 2, none⟩ (.int .i64 (d'.R : Int))).setCell ⟨r, 3, none⟩ (.int .i64 (d'.C : Int)))) := (C4.mono (fun _ e => e.elim)).trans cc5 (fun _ e => .inl e)
      have hfr : f ≠ r := by have := HFN.out; have := lt_of_blk HH.out.blk; omega
      clear hd' h4 c4 C4 HR4 HS4 hc5 cc5 S5 xf HH HS HCP HP
      go_wp2_with fail
      refine (rturn_in B' s m t xs j 0 _ HS5.out HIN.out HJ.out).mono ?_
      rintro x w6 ⟨rfl, h6, c6⟩
      have H6 := H5.out.keep c6 (fun e => by obtain ⟨cur, hcur⟩ := owns_blk HS5.out.own e; exact ty_ne H5.out.blk hcur (by decide)) (fun g e e2 => by obtain ⟨cur, hcur⟩ := owns_blk H5.out.own e; obtain ⟨cur2, hcur2⟩ := owns_blk HS5.out.own e2; exact ty_ne hcur hcur2 (by decide))
      have HE : Hid (Rdc w6 B r (.slice ad L cap) bs d' ∧ Rt w6 B' s m t (xs.set j (Prob.nx xs[j] 0)) ∧ Chg (fun z => z = r ∨ t.ownBlock = some z) w0 w6) := ⟨H6, h6, (HC5.out.mono (fun _ e => .inl (.inl e))).trans c6 (fun _ e => .inl (.inr e))⟩
      clear h6 c6 H6 H5 HS5 HC5
      go_wp2
      go_ret2
      have hbv := HBV0.out
      rw [hbv]
      exact .inl ⟨d', HCUT.out, by rw [HON.out]; rfl, by rw [HVV.out]; exact HE.out.1, by rw [HON.out]; exact HE.out.2.1, HE.out.2.2⟩
    · have HCUT : Hid (Rc.cutD bs d bb = none) := by show Rc.cutD bs d bb = _; unfold Rc.cutD; rw [HPT.out]; exact hd'
      have HC4 : Hid (Chg (fun _ => False) w0 w4) := (HC2.out.trans HCP.out (fun z e => .inr (by have := HFN.out; omega))).trans c4 (fun _ f => f.elim)
      clear hd' c4 HCP HP
      go_wp2
      go_ret2
      have hbv := HBV0.out
      rw [hbv]
      exact .inr ⟨HCUT.out, rfl, HC4.out⟩
  · skip
    have hcb : decide (zc < (bb : Int)) = false := by simp; omega
    have HPT : Hid (Rc.partD d bb = ⟨d.n, d.R - bb, d.C - bb⟩) := by show Rc.partD d bb = _; unfold Rc.partD; rw [if_pos (by have := HZC.out; omega)]
    have HON : Hid (Rc.oneD d bb = true) := by show decide (bb ≤ d.C) = true; have := HZC.out; simp; omega
    obtain ⟨hp1, cp1⟩ := HF.out.put 3 (zc - (bb : Int)) ⟨d.n, d.R, d.C - bb⟩ (by have := HZC.out; simp only [List.set]; rw [show zc - (bb : Int) = ((d.C - bb : Nat) : Int) by omega])
    have y2 : (w2.setCell ⟨f, 3, none⟩ (.int .i64 (zc - (bb : Int)))).cell? ⟨f, 2, none⟩ = some (.int .i64 z) := by have := HZ.out; rw [this]; exact (rcells4 hp1.blk).2.2.1
    have yf2 := (rcells4 hp1.blk).2.2.2.2 2
    obtain ⟨hp2, cp2⟩ := hp1.put 2 (z - (bb : Int)) ⟨d.n, d.R - bb, d.C - bb⟩ (by have := HZ.out; simp only [List.set]; rw [show z - (bb : Int) = ((d.R - bb : Nat) : Int) by omega])
    have HP : Hid (Rdc ((w2.setCell ⟨f, 3, none⟩ (.int .i64 (zc - (bb : Int)))).setCell ⟨f, 2, none⟩ (.int .i64 (z - (bb : Int)))) B f (.slice ad L cap) bs ⟨d.n, d.R - bb, d.C - bb⟩) := hp2
    have HCP : Hid (Chg (fun z => z = f) w2 ((w2.setCell ⟨f, 3, none⟩ (.int .i64 (zc - (bb : Int)))).setCell ⟨f, 2, none⟩ (.int .i64 (z - (bb : Int))))) := cp1.trans cp2 (fun _ e => .inl e)
    clear hp1 cp1 hp2 cp2
    clear HF
    go_wp2_with fail
    refine (rdwiden_any B f (.slice ad L cap) bs ⟨d.n, d.R - bb, d.C - bb⟩ _ HP.out (by show d.C - bb < d.R - bb; have := HBV.out; have := HZ.out; have := HZC.out; omega) HDN.out hl).mono ?_
    rintro x w4 (⟨d', hd', rfl, h4, c4⟩ | ⟨hd', rfl, c4⟩)
    · have HCUT : Hid (Rc.cutD bs d bb = some d') := by show Rc.cutD bs d bb = _; unfold Rc.cutD; rw [HPT.out]; exact hd'
      have C4 : Chg (fun _ => False) w0 w4 := (HC2.out.trans HCP.out (fun z e => .inr (by have := HFN.out; omega))).trans c4 (fun z e => .inr (by have := HFN.out; omega))
      have HR4 := HH.out.new C4
      have HS4 := HS.out.new C4
      obtain ⟨y0, y1, y2, y3, _⟩ := rcells4 h4.blk
      obtain ⟨x0, x1, x2, x3, xf⟩ := rcells4 HR4.blk
      have xf0 := xf 0
      have xf1 := xf 1
      have xf2 := xf 2
      have xf3 := xf 3
      obtain ⟨hc5, cc5⟩ := HR4.copy (d' := d') (d'.n : Int) (d'.R : Int) (d'.C : Int) rfl rfl rfl
      have H5 : Hid (Rdc ((((w4.setCell ⟨r, 0, none⟩ (.slice ad L cap)).setCell ⟨r, 1, none⟩ (.int .i64 (d'.n : Int))).setCell ⟨r, 2, none⟩ (.int .i64 (d'.R : Int))).setCell ⟨r, 3, none⟩ (.int .i64 (d'.C : Int))) B r (.slice ad L cap) bs d') := hc5
      have S5 := HS4.keep cc5 (fun e => by have h1 := HS4.blk; rw [e] at h1; exact ty_ne h1 HR4.blk (by decide)) (fun g e e2 => by obtain ⟨cur, hcur⟩ := owns_blk HS4.own e; rw [e2] at hcur; exact ty_ne hcur HR4.blk (by decide))
      have HS5 : Hid (Rt ((((w4.setCell ⟨r, 0, none⟩ (.slice ad L cap)).setCell ⟨r, 1, none⟩ (.int .i64 (d'.n : Int))).setCell ⟨r, 2, none⟩ (.int .i64 (d'.R : Int))).setCell ⟨r, 3, none⟩ (.int .i64 (d'.C : Int))) B' s m t xs) := S5
      have HC5 : Hid (Chg (fun z => z = r) w0 ((((w4.setCell ⟨r, 0, none⟩ (.slice ad L cap)).setCell ⟨r, 1, none⟩ (.int .i64 (d'.n : Int))).setCell ⟨r, 2, none⟩ (.int .i64 (d'.R : Int))).setCell ⟨r, 3, none⟩ (.int .i64 (d'.C : Int)))) := (C4.mono (fun _ e => e.elim)).trans cc5 (fun _ e => .inl e)
      have hfr : f ≠ r := by have := HFN.out; have := lt_of_blk HH.out.blk; omega
      clear hd' h4 c4 C4 HR4 HS4 hc5 cc5 S5 xf HH HS HCP HP
      go_wp2_with fail
      refine (rturn_in B' s m t xs j 1 _ HS5.out HIN.out HJ.out).mono ?_
      rintro x w6 ⟨rfl, h6, c6⟩
      have H6 := H5.out.keep c6 (fun e => by obtain ⟨cur, hcur⟩ := owns_blk HS5.out.own e; exact ty_ne H5.out.blk hcur (by decide)) (fun g e e2 => by obtain ⟨cur, hcur⟩ := owns_blk H5.out.own e; obtain ⟨cur2, hcur2⟩ := owns_blk HS5.out.own e2; exact ty_ne hcur hcur2 (by decide))
      have HE : Hid (Rdc w6 B r (.slice ad L cap) bs d' ∧ Rt w6 B' s m t (xs.set j (Prob.nx xs[j] 1)) ∧ Chg (fun z => z = r ∨ t.ownBlock = some z) w0 w6) := ⟨H6, h6, (HC5.out.mono (fun _ e => .inl (.inl e))).trans c6 (fun _ e => .inl (.inr e))⟩
      clear h6 c6 H6 H5 HS5 HC5
      go_wp2
      go_ret2
      have hbv := HBV0.out
      rw [hbv]
      exact .inl ⟨d', HCUT.out, by rw [HON.out]; rfl, by rw [HVV.out]; exact HE.out.1, by rw [HON.out]; exact HE.out.2.1, HE.out.2.2⟩
    · have HCUT : Hid (Rc.cutD bs d bb = none) := by show Rc.cutD bs d bb = _; unfold Rc.cutD; rw [HPT.out]; exact hd'
      have HC4 : Hid (Chg (fun _ => False) w0 w4) := (HC2.out.trans HCP.out (fun z e => .inr (by have := HFN.out; omega))).trans c4 (fun _ f => f.elim)
      clear hd' c4 HCP HP
      go_wp2
      go_ret2
      have hbv := HBV0.out
      rw [hbv]
      exact .inr ⟨HCUT.out, rfl, HC4.out⟩

end Go.Proofs.Ytibgjpifmpljkaa

/- The contract of the document's Direct; of no statement by itself. -/
namespace Go.Proofs.Ytibgjpifmpljkaa
open Go.RowKit
set_option linter.unusedVariables false

/-- n bits without a probability: the error, or the bits and the decoder behind them. -/
def dirD (bs : List Nat) : Nat → Nat → Rc.D → Except Nat (Nat × Rc.D)
  | 0, v, d => .ok (v, d)
  | m + 1, v, d => if (Rc.hpartD d).R ≤ (Rc.hpartD d).C then .error 2 else match Rc.widenD bs (Rc.hpartD d) with
    | none => .error 1
    | some d' => dirD bs m (2 * v + if d.R / 2 ≤ d.C then 1 else 0) d'
theorem dig_at {bs : List Nat} (h : Rc.Dig bs) (i : Nat) : bs.getD i 0 < 256 := by
  rw [List.getD_eq_getElem?_getD]
  cases e : bs[i]? with
  | none => simp
  | some x => exact h x (List.mem_of_getElem? e)
theorem okd_half {bs : List Nat} {d d' : Rc.D} (hdig : Rc.Dig bs) (h : OkD bs d) (hg : ¬ (Rc.hpartD d).R ≤ (Rc.hpartD d).C) (hw : Rc.widenD bs (Rc.hpartD d) = some d') : OkD bs d' := by
  have h1 := h.lo
  have h2 := h.hi
  have h3 := h.lt
  have h4 := h.n
  have hR : (Rc.hpartD d).R = d.R / 2 := by unfold Rc.hpartD; split <;> rfl
  have hN : (Rc.hpartD d).n = d.n := by unfold Rc.hpartD; split <;> rfl
  unfold Rc.widenD at hw
  split at hw
  · split at hw
    · rename_i a b
      simp only [Option.some.injEq] at hw
      subst hw
      refine ⟨by show 16777216 ≤ 256 * _; omega, by show 256 * _ ≤ _; omega, ?_, by show (Rc.hpartD d).n + 1 ≤ _; omega⟩
      show 256 * (Rc.hpartD d).C + _ < 256 * (Rc.hpartD d).R
      have := dig_at hdig (Rc.hpartD d).n
      omega
    · cases hw
  · rename_i a
    simp only [Option.some.injEq] at hw
    subst hw
    exact ⟨by omega, by omega, by omega, by omega⟩

theorem rddirect_out (r : Value) (n : Int) (w : World) (hn : n < 0 ∨ 32 < n) : Calls Try.prog 63 #[r, .int .i64 n] w fun e w' => e = .returned (.tuple #[.int .u32 0, .int .i64 7]) ∧ w = w' := by
  by_cases h0 : n < 0
  · go_enter Try.func63, Try.ntmps63
    go_wp2
    go_ret2
    exact ⟨rfl, rfl⟩
  · have h1 : 32 < n := by omega
    have hd : decide (n < 0) = false := by simp; omega
    go_enter Try.func63, Try.ntmps63
    go_wp2
    go_ret2
    exact ⟨rfl, rfl⟩

set_option maxHeartbeats 8000000 in
set_option maxRecDepth 100000 in
theorem rddirect_in (B r : Nat) (v : Value) (bs : List Nat) (d0 : Rc.D) (n : Nat) (w0 : World) (h : Rdc w0 B r v bs d0) (hO : OkD bs d0) (hn : n ≤ 32) (hl : bs.length ≤ 140737488355328) (hB : B ≤ w0.heap.size) :
    Calls Try.prog 63 #[.pointer (some ⟨r, 0, none⟩), .int .i64 (n : Int)] w0 fun x w' =>
      (∃ e, dirD bs n 0 d0 = .error e ∧ x = .returned (.tuple #[.int .u32 0, .int .i64 (e : Int)]) ∧ Chg (fun _ => False) w0 w')
      ∨ (∃ m d', dirD bs n 0 d0 = .ok (m, d') ∧ m < 2 ^ n ∧ OkD bs d' ∧ x = .returned (.tuple #[.int .u32 (m : Int), .int .i64 0]) ∧ Rdc w' B r v bs d' ∧ Chg (fun z => z = r) w0 w') := by
  obtain ⟨ad, cap, hv, _⟩ := own_any h.own
  obtain ⟨L, hL⟩ : ∃ L, bs.length = L := ⟨_, rfl⟩
  rw [hL] at hv
  have HV : Hid (v = .slice ad L cap) := hv
  have HH : Hid (Rdc w0 B r v bs d0) := h
  have HO : Hid (OkD bs d0) := hO
  have HDIG : Hid (Rc.Dig bs) := h.dig
  have hd : decide ((n : Int) < 0) = false := by simp
  have hd32 : decide ((32 : Int) < (n : Int)) = false := by simp; omega
  clear h hO hv
  go_enter Try.func63, Try.ntmps63
  go_wp2_with fail
  refine (rdfork_any B r v bs d0 _ HH.out hB).mono ?_
  rintro x w2 ⟨f, rfl, hf, hF, c2⟩
  have HF0 : Hid (Rdc w2 B f v bs d0) := hF
  have HC0 : Hid (Chg (fun _ => False) w0 w2) := c2
  have HFN : Hid (w0.heap.size ≤ f) := hf
  clear hF c2 hf
  obtain ⟨vv, hvv⟩ : ∃ vv, vv = v := ⟨_, rfl⟩
  rw [← hvv] at HF0
  have HVV : Hid (vv = v) := hvv
  clear hvv
  go_wp2_with fail
  go_loopw [7, 8] (fun vv7 iv wr => ∃ (i m : Nat) (d : Rc.D), i ≤ n ∧ iv = .int .i64 (i : Int) ∧ vv7 = .int .i64 (m : Int) ∧ Hid (Rdc wr B f vv bs d) ∧ Hid (OkD bs d) ∧ Hid (dirD bs (n - i) m d = dirD bs n 0 d0) ∧ Hid (m < 2 ^ i) ∧ Hid (Chg (fun _ => False) w0 wr)) (fun _ iv _ => n - (intOf iv).toNat)
  case atStart => exact ⟨0, 0, d0, Nat.zero_le _, rfl, rfl, HF0.out, HO.out, rfl, by show 0 < 2 ^ 0; decide, HC0.out⟩
  case round =>
    clear HF0 HC0
    obtain ⟨i, m, d, hi, rfl, rfl, HF, HOK, HD, HM, HC⟩ := hrel
    have hm33 : m < 4294967296 := by have h1 := HM.out; have h2 : 2 ^ i ≤ 2 ^ 32 := Nat.pow_le_pow_right (by omega) (by omega); omega
    by_cases hin : i < n
    · obtain ⟨N1, hN1⟩ : ∃ K, n - i = K + 1 := ⟨n - i - 1, by omega⟩
      rw [hN1] at HD
      obtain ⟨_, _, k2, k3, kf⟩ := rcells4 HF.out.blk
      have kf2 := kf 2
      have hlo := HOK.out.lo
      have hhi := HOK.out.hi
      have hlt := HOK.out.lt
      obtain ⟨z, hz⟩ : ∃ z : Int, z = (d.R : Int) := ⟨_, rfl⟩
      obtain ⟨zc, hzc⟩ : ∃ z : Int, z = (d.C : Int) := ⟨_, rfl⟩
      obtain ⟨q, hq⟩ : ∃ q : Int, q = z / 2 := ⟨_, rfl⟩
      have HZC : Hid (zc = (d.C : Int)) := hzc
      have HQ : Hid (q = ((d.R / 2 : Nat) : Int)) := by show q = _; omega
      have hzq : z / 2 = q := hq.symm
      have hzq2 : z.tdiv 2 = q := by rw [Int.tdiv_eq_ediv_of_nonneg (by omega)]; omega
      have z1 : 16777216 ≤ z := by omega
      have z2 : z ≤ 4294967295 := by omega
      have q1 : 8388608 ≤ q := by omega
      have q2 : q ≤ 4294967295 := by omega
      have zc1 : 0 ≤ zc := by omega
      have zc2 : zc ≤ 4294967295 := by omega
      rw [← hz] at k2
      obtain ⟨hp1, cp1⟩ := HF.out.put 2 q ⟨d.n, d.R / 2, d.C⟩ (by have := HQ.out; simp only [List.set]; rw [this])
      have HP1 : Hid (Rdc (wr.setCell ⟨f, 2, none⟩ (.int .i64 q)) B f vv bs ⟨d.n, d.R / 2, d.C⟩) := hp1
      have HCP1 : Hid (Chg (fun _ => False) w0 (wr.setCell ⟨f, 2, none⟩ (.int .i64 q))) := HC.out.trans cp1 (fun z e => .inr (by have := HFN.out; omega))
      have HHN : Hid ((Rc.hpartD d).n ≤ bs.length) := by have := HOK.out.n; show (Rc.hpartD d).n ≤ _; unfold Rc.hpartD; split <;> exact this
      have m2_ : (m : Int) < 4294967296 := by omega
      clear kf hp1 cp1 hz hzc hq hlo hhi hlt HF HC k3 hm33
      go_wp2_with fail
      try simp only [hzq]
      generalize wr.setCell ⟨f, 2, none⟩ (.int .i64 q) = W1 at *
      obtain ⟨_, _, y2, y3, _⟩ := rcells4 HP1.out.blk
      replace y2 : W1.cell? ⟨f, 2, none⟩ = some (.int .i64 q) := by have := HQ.out; rw [this]; exact y2
      replace y3 : W1.cell? ⟨f, 3, none⟩ = some (.int .i64 zc) := by have := HZC.out; rw [this]; exact y3
      by_cases hbit : q ≤ zc
      · have HHP : Hid (Rc.hpartD d = ⟨d.n, d.R / 2, d.C - d.R / 2⟩) := by show Rc.hpartD d = _; unfold Rc.hpartD; rw [if_pos (by have := HQ.out; have := HZC.out; omega)]
        have hdb0 : decide (zc < q) = false := by simp; omega
        refine wp_region_last (mk := fun u => #[_, _, _, _, _, _, _, _, _, _, _, _, _, _, _, _, _, _, _, _, _, _, _, _, _, _, _, _, _, _, _, _, _, u 33, u 34, u 35, u 36, u 37, u 38, u 39, u 40, _, _, _, _, _, _, _, _, _, _, _, _, _, _, _, _, _, _, _, _, _, _, _, _, _, _, _, _, _, _, _, _, _, _, _]) (F := fun slot vv ww => (look [(33, .val (.pointer (some ⟨f, 0, none⟩))), (34, .val (.pointer (some ⟨f, 0, none⟩))), (35, .val (.pointer (some ⟨f, 3, none⟩))), (36, .val (.int .i64 zc)), (37, .val (.pointer (some ⟨f, 0, none⟩))), (38, .val (.pointer (some ⟨f, 0, none⟩))), (39, .val (.pointer (some ⟨f, 2, none⟩))), (40, .val (.int .i64 q))] slot).holds vv ww) (fun slot => match slot with | 33 => u33 | 34 => u34 | 35 => u35 | 36 => u36 | 37 => u37 | 38 => u38 | 39 => u39 | 40 => u40 | _ => undef) rfl (by kernel_rfl) 8 _ rfl rfl (by kernel_rfl) ?_ (fun _ v w w' hc h => Fact.stays _ v w w' hc h) ?_ ?_
        · repeat (refine ⟨⟨_, rfl, fun _ _ => rfl⟩, ?_⟩)
          exact trivial
        · refine ⟨?_, ?_, ?_, ?_, ?_, ?_, ?_, ?_, trivial⟩
          · intro u w hc hd K hK -- 33
            clear hd
            go_simp
            exact hK.out (.pointer (some ⟨f, 0, none⟩)) w (Chg.refl _ _) rfl
          · intro u w hc hd K hK -- 34
            have h33 : (Fact.val (.pointer (some ⟨f, 0, none⟩))).holds (u 33) w := hd.get 0 (by kernel_rfl)
            simp only [Fact.holds] at h33
            clear hd
            simp only [h33] at hK
            go_simp
            exact hK.out (.pointer (some ⟨f, 0, none⟩)) w (Chg.refl _ _) rfl
          · intro u w hc hd K hK -- 35
            have h34 : (Fact.val (.pointer (some ⟨f, 0, none⟩))).holds (u 34) w := hd.get 1 (by kernel_rfl)
            simp only [Fact.holds] at h34
            clear hd
            simp only [h34] at hK
            go_simp
            exact hK.out (.pointer (some ⟨f, 3, none⟩)) w (Chg.refl _ _) rfl
          · intro u w hc hd K hK -- 36
            have h35 : (Fact.val (.pointer (some ⟨f, 3, none⟩))).holds (u 35) w := hd.get 2 (by kernel_rfl)
            simp only [Fact.holds] at h35
            clear hd
            simp only [h35] at hK
            have hcell := cell_chg y3 hc
            go_simp
            exact hK.out _ _ (Chg.refl _ _) rfl
          · intro u w hc hd K hK -- 37
            clear hd
            go_simp
            exact hK.out (.pointer (some ⟨f, 0, none⟩)) w (Chg.refl _ _) rfl
          · intro u w hc hd K hK -- 38
            have h37 : (Fact.val (.pointer (some ⟨f, 0, none⟩))).holds (u 37) w := hd.get 4 (by kernel_rfl)
            simp only [Fact.holds] at h37
            clear hd
            simp only [h37] at hK
            go_simp
            exact hK.out (.pointer (some ⟨f, 0, none⟩)) w (Chg.refl _ _) rfl
          · intro u w hc hd K hK -- 39
            have h38 : (Fact.val (.pointer (some ⟨f, 0, none⟩))).holds (u 38) w := hd.get 5 (by kernel_rfl)
            simp only [Fact.holds] at h38
            clear hd
            simp only [h38] at hK
            go_simp
            exact hK.out (.pointer (some ⟨f, 2, none⟩)) w (Chg.refl _ _) rfl
          · intro u w hc hd K hK -- 40
            have h39 : (Fact.val (.pointer (some ⟨f, 2, none⟩))).holds (u 39) w := hd.get 6 (by kernel_rfl)
            simp only [Fact.holds] at h39
            clear hd
            simp only [h39] at hK
            have hcell := cell_chg y2 hc
            go_simp
            exact hK.out _ _ (Chg.refl _ _) rfl
        · intro u w hc hA K hK
          have e36 : u 36 = .int .i64 zc := hA.at 36 (by kernel_rfl)
          have e40 : u 40 = .int .i64 q := hA.at 40 (by kernel_rfl)
          clear hA
          have HPa : Hid (Rdc w B f vv bs ⟨d.n, d.R / 2, d.C⟩) := HP1.out.new hc
          have HCa : Hid (Chg (fun _ => False) w0 w) := chg_then HCP1.out hc
          have y2b := cell_chg y2 hc
          have y3b := cell_chg y3 hc
          clear hc y2 y3 HP1 HCP1
          go_simp
          refine hK.out _ _ ?_
          clear hK e36 e40
          go_wp2_with fail
          generalize w = Wa at *
          refine wp_region_last (mk := fun u => #[_, _, _, _, _, _, _, _, _, _, _, _, _, _, _, _, _, _, _, _, _, _, _, _, _, _, _, _, _, _, _, _, _, _, _, _, _, _, _, _, _, _, u 42, u 43, u 44, u 45, u 46, u 47, u 48, u 49, u 50, u 51, u 52, u 53, _, _, _, _, _, _, _, _, _, _, _, _, _, _, _, _, _, _, _, _, _, _]) (F := fun slot vv ww => (look [(42, .val (.pointer (some ⟨f, 0, none⟩))), (43, .val (.pointer (some ⟨f, 0, none⟩))), (44, .val (.pointer (some ⟨f, 0, none⟩))), (45, .val (.pointer (some ⟨f, 3, none⟩))), (46, .val (.int .i64 zc)), (47, .val (.pointer (some ⟨f, 0, none⟩))), (48, .val (.pointer (some ⟨f, 0, none⟩))), (49, .val (.pointer (some ⟨f, 2, none⟩))), (50, .val (.int .i64 q)), (51, .val (.int .i64 (zc - q))), (52, .val (.pointer (some ⟨f, 0, none⟩))), (53, .val (.pointer (some ⟨f, 3, none⟩)))] slot).holds vv ww) (fun slot => match slot with | 42 => u42 | 43 => u43 | 44 => u44 | 45 => u45 | 46 => u46 | 47 => u47 | 48 => u48 | 49 => u49 | 50 => u50 | 51 => u51 | 52 => u52 | 53 => u53 | _ => undef) rfl (by kernel_rfl) 12 _ rfl rfl (by kernel_rfl) ?_ (fun _ v w w' hc h => Fact.stays _ v w w' hc h) ?_ ?_
          · repeat (refine ⟨⟨_, rfl, fun _ _ => rfl⟩, ?_⟩)
            exact trivial
          · refine ⟨?_, ?_, ?_, ?_, ?_, ?_, ?_, ?_, ?_, ?_, ?_, ?_, trivial⟩
            · intro u w hc hd K hK -- 42
              clear hd
              go_simp
              exact hK.out (.pointer (some ⟨f, 0, none⟩)) w (Chg.refl _ _) rfl
            · intro u w hc hd K hK -- 43
              clear hd
              go_simp
              exact hK.out (.pointer (some ⟨f, 0, none⟩)) w (Chg.refl _ _) rfl
            · intro u w hc hd K hK -- 44
              have h43 : (Fact.val (.pointer (some ⟨f, 0, none⟩))).holds (u 43) w := hd.get 1 (by kernel_rfl)
              simp only [Fact.holds] at h43
              clear hd
              simp only [h43] at hK
              go_simp
              exact hK.out (.pointer (some ⟨f, 0, none⟩)) w (Chg.refl _ _) rfl
            · intro u w hc hd K hK -- 45
              have h44 : (Fact.val (.pointer (some ⟨f, 0, none⟩))).holds (u 44) w := hd.get 2 (by kernel_rfl)
              simp only [Fact.holds] at h44
              clear hd
              simp only [h44] at hK
              go_simp
              exact hK.out (.pointer (some ⟨f, 3, none⟩)) w (Chg.refl _ _) rfl
            · intro u w hc hd K hK -- 46
              have h45 : (Fact.val (.pointer (some ⟨f, 3, none⟩))).holds (u 45) w := hd.get 3 (by kernel_rfl)
              simp only [Fact.holds] at h45
              clear hd
              simp only [h45] at hK
              have hcell := cell_chg y3b hc
              go_simp
              exact hK.out _ _ (Chg.refl _ _) rfl
            · intro u w hc hd K hK -- 47
              clear hd
              go_simp
              exact hK.out (.pointer (some ⟨f, 0, none⟩)) w (Chg.refl _ _) rfl
            · intro u w hc hd K hK -- 48
              have h47 : (Fact.val (.pointer (some ⟨f, 0, none⟩))).holds (u 47) w := hd.get 5 (by kernel_rfl)
              simp only [Fact.holds] at h47
              clear hd
              simp only [h47] at hK
              go_simp
              exact hK.out (.pointer (some ⟨f, 0, none⟩)) w (Chg.refl _ _) rfl
            · intro u w hc hd K hK -- 49
              have h48 : (Fact.val (.pointer (some ⟨f, 0, none⟩))).holds (u 48) w := hd.get 6 (by kernel_rfl)
              simp only [Fact.holds] at h48
              clear hd
              simp only [h48] at hK
              go_simp
              exact hK.out (.pointer (some ⟨f, 2, none⟩)) w (Chg.refl _ _) rfl
            · intro u w hc hd K hK -- 50
              have h49 : (Fact.val (.pointer (some ⟨f, 2, none⟩))).holds (u 49) w := hd.get 7 (by kernel_rfl)
              simp only [Fact.holds] at h49
              clear hd
              simp only [h49] at hK
              have hcell := cell_chg y2b hc
              go_simp
              exact hK.out _ _ (Chg.refl _ _) rfl
            · intro u w hc hd K hK -- 51
              have h46 : (Fact.val (.int .i64 zc)).holds (u 46) w := hd.get 4 (by kernel_rfl)
              simp only [Fact.holds] at h46
              have h50 : (Fact.val (.int .i64 q)).holds (u 50) w := hd.get 8 (by kernel_rfl)
              simp only [Fact.holds] at h50
              clear hd
              simp only [h46, h50] at hK
              go_simp
              first | exact hK.out (.int .i64 (zc - q)) w (Chg.refl _ _) rfl | (rw [wr64 (p := zc - q) (by omega) (by omega)]; exact hK.out (.int .i64 (zc - q)) w (Chg.refl _ _) rfl)
            · intro u w hc hd K hK -- 52
              have h42 : (Fact.val (.pointer (some ⟨f, 0, none⟩))).holds (u 42) w := hd.get 0 (by kernel_rfl)
              simp only [Fact.holds] at h42
              clear hd
              simp only [h42] at hK
              go_simp
              exact hK.out (.pointer (some ⟨f, 0, none⟩)) w (Chg.refl _ _) rfl
            · intro u w hc hd K hK -- 53
              have h52 : (Fact.val (.pointer (some ⟨f, 0, none⟩))).holds (u 52) w := hd.get 10 (by kernel_rfl)
              simp only [Fact.holds] at h52
              clear hd
              simp only [h52] at hK
              go_simp
              exact hK.out (.pointer (some ⟨f, 3, none⟩)) w (Chg.refl _ _) rfl
          · intro u w hc hA K hK
            have e51 : u 51 = .int .i64 (zc - q) := hA.at 51 (by kernel_rfl)
            have e53 : u 53 = .pointer (some ⟨f, 3, none⟩) := hA.at 53 (by kernel_rfl)
            clear hA
            have hPb := HPa.out.new hc
            have w3_ := (rcells4 hPb.blk).2.2.2.1
            have wf3 := (rcells4 hPb.blk).2.2.2.2 3
            obtain ⟨hpc, cpc⟩ := hPb.put 3 (zc - q) (Rc.hpartD d) (by rw [HHP.out]; have := HQ.out; have := HZC.out; simp only [List.set]; rw [show zc - q = ((d.C - d.R / 2 : Nat) : Int) by omega])
            have HP : Hid (Rdc (w.setCell ⟨f, 3, none⟩ (.int .i64 (zc - q))) B f vv bs (Rc.hpartD d)) := hpc
            have HCW : Hid (Chg (fun _ => False) w0 (w.setCell ⟨f, 3, none⟩ (.int .i64 (zc - q)))) := (chg_then HCa.out hc).trans cpc (fun z e => .inr (by have := HFN.out; omega))
            clear hc hPb hpc cpc HPa HCa y2b y3b
            go_simp
            refine hK.out _ _ ?_
            clear hK
            go_upto_region 13 with fail
            clear w3_ wf3
            generalize w.setCell ⟨f, 3, none⟩ (.int .i64 (zc - q)) = W at *
            clear e51 e53
            obtain ⟨_, _, x2, x3, _⟩ := rcells4 HP.out.blk
            rw [HHP.out] at x2 x3
            replace x2 : W.cell? ⟨f, 2, none⟩ = some (.int .i64 q) := by have h9 := HQ.out; rw [h9]; exact x2
            replace x3 : W.cell? ⟨f, 3, none⟩ = some (.int .i64 (zc - q)) := by
              have h9 := HZC.out
              have h8 := HQ.out
              rw [show (zc - q) = ((Rc.D.C ⟨d.n, d.R / 2, d.C - d.R / 2⟩ : Nat) : Int) by show (zc - q) = ((d.C - d.R / 2 : Nat) : Int); omega]
              exact x3
            by_cases hbad : q ≤ (zc - q)
            · have HE : Hid (dirD bs n 0 d0 = .error 2) := by
                show dirD bs n 0 d0 = _
                rw [← HD.out]
                show dirD bs (N1 + 1) m d = _
                rw [dirD, if_pos (by rw [HHP.out]; show d.R / 2 ≤ d.C - d.R / 2; have := HQ.out; have := HZC.out; omega)]
              have hdb : decide ((zc - q) < q) = false := by simp; omega
              go_wp2_with fail
              refine wp_region_last (mk := fun u => #[_, _, _, _, _, _, _, _, _, _, _, _, _, _, _, _, _, _, _, _, _, _, _, _, _, _, _, _, _, _, _, _, _, _, _, _, _, _, _, _, _, _, _, _, _, _, _, _, _, _, _, _, _, _, _, _, u 56, u 57, u 58, u 59, u 60, u 61, u 62, u 63, _, _, _, _, _, _, _, _, _, _, _, _]) (F := fun slot vv ww => (look [(56, .val (.pointer (some ⟨f, 0, none⟩))), (57, .val (.pointer (some ⟨f, 0, none⟩))), (58, .val (.pointer (some ⟨f, 3, none⟩))), (59, .val (.int .i64 (zc - q))), (60, .val (.pointer (some ⟨f, 0, none⟩))), (61, .val (.pointer (some ⟨f, 0, none⟩))), (62, .val (.pointer (some ⟨f, 2, none⟩))), (63, .val (.int .i64 q))] slot).holds vv ww) (fun slot => match slot with | 56 => u56 | 57 => u57 | 58 => u58 | 59 => u59 | 60 => u60 | 61 => u61 | 62 => u62 | 63 => u63 | _ => undef) rfl (by kernel_rfl) 8 _ rfl rfl (by kernel_rfl) ?_ (fun _ v w w' hc h => Fact.stays _ v w w' hc h) ?_ ?_
              · repeat (refine ⟨⟨_, rfl, fun _ _ => rfl⟩, ?_⟩)
                exact trivial
              · refine ⟨?_, ?_, ?_, ?_, ?_, ?_, ?_, ?_, trivial⟩
                · intro u w hc hd K hK -- 56
                  clear hd
                  go_simp
                  exact hK.out (.pointer (some ⟨f, 0, none⟩)) w (Chg.refl _ _) rfl
                · intro u w hc hd K hK -- 57
                  have h56 : (Fact.val (.pointer (some ⟨f, 0, none⟩))).holds (u 56) w := hd.get 0 (by kernel_rfl)
                  simp only [Fact.holds] at h56
                  clear hd
                  simp only [h56] at hK
                  go_simp
                  exact hK.out (.pointer (some ⟨f, 0, none⟩)) w (Chg.refl _ _) rfl
                · intro u w hc hd K hK -- 58
                  have h57 : (Fact.val (.pointer (some ⟨f, 0, none⟩))).holds (u 57) w := hd.get 1 (by kernel_rfl)
                  simp only [Fact.holds] at h57
                  clear hd
                  simp only [h57] at hK
                  go_simp
                  exact hK.out (.pointer (some ⟨f, 3, none⟩)) w (Chg.refl _ _) rfl
                · intro u w hc hd K hK -- 59
                  have h58 : (Fact.val (.pointer (some ⟨f, 3, none⟩))).holds (u 58) w := hd.get 2 (by kernel_rfl)
                  simp only [Fact.holds] at h58
                  clear hd
                  simp only [h58] at hK
                  have hcell := cell_chg x3 hc
                  go_simp
                  exact hK.out _ _ (Chg.refl _ _) rfl
                · intro u w hc hd K hK -- 60
                  clear hd
                  go_simp
                  exact hK.out (.pointer (some ⟨f, 0, none⟩)) w (Chg.refl _ _) rfl
                · intro u w hc hd K hK -- 61
                  have h60 : (Fact.val (.pointer (some ⟨f, 0, none⟩))).holds (u 60) w := hd.get 4 (by kernel_rfl)
                  simp only [Fact.holds] at h60
                  clear hd
                  simp only [h60] at hK
                  go_simp
                  exact hK.out (.pointer (some ⟨f, 0, none⟩)) w (Chg.refl _ _) rfl
                · intro u w hc hd K hK -- 62
                  have h61 : (Fact.val (.pointer (some ⟨f, 0, none⟩))).holds (u 61) w := hd.get 5 (by kernel_rfl)
                  simp only [Fact.holds] at h61
                  clear hd
                  simp only [h61] at hK
                  go_simp
                  exact hK.out (.pointer (some ⟨f, 2, none⟩)) w (Chg.refl _ _) rfl
                · intro u w hc hd K hK -- 63
                  have h62 : (Fact.val (.pointer (some ⟨f, 2, none⟩))).holds (u 62) w := hd.get 6 (by kernel_rfl)
                  simp only [Fact.holds] at h62
                  clear hd
                  simp only [h62] at hK
                  have hcell := cell_chg x2 hc
                  go_simp
                  exact hK.out _ _ (Chg.refl _ _) rfl
              · intro u w hc hA K hK
                have e59 : u 59 = .int .i64 (zc - q) := hA.at 59 (by kernel_rfl)
                have e63 : u 63 = .int .i64 q := hA.at 63 (by kernel_rfl)
                clear hA
                have HC9 : Hid (Chg (fun _ => False) w0 w) := chg_then HCW.out hc
                clear hc
                go_simp
                refine hK.out _ _ ?_
                clear hK
                go_wp2
                go_ret2
                exact .inl ⟨2, HE.out, rfl, HC9.out⟩
            · have HGOOD : Hid (¬ (Rc.hpartD d).R ≤ (Rc.hpartD d).C) := by show ¬ _; rw [HHP.out]; show ¬ d.R / 2 ≤ d.C - d.R / 2; have := HQ.out; have := HZC.out; omega
              have hdb : decide (q ≤ (zc - q)) = false := by simp; omega
              go_wp2_with fail
              refine wp_region_last (mk := fun u => #[_, _, _, _, _, _, _, _, _, _, _, _, _, _, _, _, _, _, _, _, _, _, _, _, _, _, _, _, _, _, _, _, _, _, _, _, _, _, _, _, _, _, _, _, _, _, _, _, _, _, _, _, _, _, _, _, u 56, u 57, u 58, u 59, u 60, u 61, u 62, u 63, _, _, _, _, _, _, _, _, _, _, _, _]) (F := fun slot vv ww => (look [(56, .val (.pointer (some ⟨f, 0, none⟩))), (57, .val (.pointer (some ⟨f, 0, none⟩))), (58, .val (.pointer (some ⟨f, 3, none⟩))), (59, .val (.int .i64 (zc - q))), (60, .val (.pointer (some ⟨f, 0, none⟩))), (61, .val (.pointer (some ⟨f, 0, none⟩))), (62, .val (.pointer (some ⟨f, 2, none⟩))), (63, .val (.int .i64 q))] slot).holds vv ww) (fun slot => match slot with | 56 => u56 | 57 => u57 | 58 => u58 | 59 => u59 | 60 => u60 | 61 => u61 | 62 => u62 | 63 => u63 | _ => undef) rfl (by kernel_rfl) 8 _ rfl rfl (by kernel_rfl) ?_ (fun _ v w w' hc h => Fact.stays _ v w w' hc h) ?_ ?_
              · repeat (refine ⟨⟨_, rfl, fun _ _ => rfl⟩, ?_⟩)
                exact trivial
              · refine ⟨?_, ?_, ?_, ?_, ?_, ?_, ?_, ?_, trivial⟩
                · intro u w hc hd K hK -- 56
                  clear hd
                  go_simp
                  exact hK.out (.pointer (some ⟨f, 0, none⟩)) w (Chg.refl _ _) rfl
                · intro u w hc hd K hK -- 57
                  have h56 : (Fact.val (.pointer (some ⟨f, 0, none⟩))).holds (u 56) w := hd.get 0 (by kernel_rfl)
                  simp only [Fact.holds] at h56
                  clear hd
                  simp only [h56] at hK
                  go_simp
                  exact hK.out (.pointer (some ⟨f, 0, none⟩)) w (Chg.refl _ _) rfl
                · intro u w hc hd K hK -- 58
                  have h57 : (Fact.val (.pointer (some ⟨f, 0, none⟩))).holds (u 57) w := hd.get 1 (by kernel_rfl)
                  simp only [Fact.holds] at h57
                  clear hd
                  simp only [h57] at hK
                  go_simp
                  exact hK.out (.pointer (some ⟨f, 3, none⟩)) w (Chg.refl _ _) rfl
                · intro u w hc hd K hK -- 59
                  have h58 : (Fact.val (.pointer (some ⟨f, 3, none⟩))).holds (u 58) w := hd.get 2 (by kernel_rfl)
                  simp only [Fact.holds] at h58
                  clear hd
                  simp only [h58] at hK
                  have hcell := cell_chg x3 hc
                  go_simp
                  exact hK.out _ _ (Chg.refl _ _) rfl
                · intro u w hc hd K hK -- 60
                  clear hd
                  go_simp
                  exact hK.out (.pointer (some ⟨f, 0, none⟩)) w (Chg.refl _ _) rfl
                · intro u w hc hd K hK -- 61
                  have h60 : (Fact.val (.pointer (some ⟨f, 0, none⟩))).holds (u 60) w := hd.get 4 (by kernel_rfl)
                  simp only [Fact.holds] at h60
                  clear hd
                  simp only [h60] at hK
                  go_simp
                  exact hK.out (.pointer (some ⟨f, 0, none⟩)) w (Chg.refl _ _) rfl
                · intro u w hc hd K hK -- 62
                  have h61 : (Fact.val (.pointer (some ⟨f, 0, none⟩))).holds (u 61) w := hd.get 5 (by kernel_rfl)
                  simp only [Fact.holds] at h61
                  clear hd
                  simp only [h61] at hK
                  go_simp
                  exact hK.out (.pointer (some ⟨f, 2, none⟩)) w (Chg.refl _ _) rfl
                · intro u w hc hd K hK -- 63
                  have h62 : (Fact.val (.pointer (some ⟨f, 2, none⟩))).holds (u 62) w := hd.get 6 (by kernel_rfl)
                  simp only [Fact.holds] at h62
                  clear hd
                  simp only [h62] at hK
                  have hcell := cell_chg x2 hc
                  go_simp
                  exact hK.out _ _ (Chg.refl _ _) rfl
              · intro u w hc hA K hK
                have e59 : u 59 = .int .i64 (zc - q) := hA.at 59 (by kernel_rfl)
                have e63 : u 63 = .int .i64 q := hA.at 63 (by kernel_rfl)
                clear hA
                have HP2 : Hid (Rdc w B f vv bs (Rc.hpartD d)) := HP.out.new hc
                have HC2 : Hid (Chg (fun _ => False) w0 w) := chg_then HCW.out hc
                clear hc
                go_simp
                refine hK.out _ _ ?_
                clear hK x2 x3
                go_wp2_with fail
                refine (rdwiden_any B f vv bs (Rc.hpartD d) _ HP2.out (by have := HGOOD.out; omega) HHN.out hl).mono ?_
                rintro z9 w4 (⟨d', hd', rfl, h4, c4⟩ | ⟨hd', rfl, c4⟩)
                · have HP4 : Hid (Rdc w4 B f vv bs d') := h4
                  have HC4 : Hid (Chg (fun _ => False) w0 w4) := HC2.out.trans c4 (fun z e => .inr (by have := HFN.out; omega))
                  have HD4 : Hid (dirD bs N1 (2 * m + 1) d' = dirD bs n 0 d0) := by
                    show dirD bs N1 (2 * m + 1) d' = _
                    rw [← HD.out]
                    show _ = dirD bs (N1 + 1) m d
                    rw [dirD, if_neg HGOOD.out, hd']
                    rw [if_pos (by have := HQ.out; have := HZC.out; omega)]
                    
                  have HO4 : Hid (OkD bs d') := okd_half HDIG.out HOK.out HGOOD.out hd'
                  have HM4 : Hid (2 * m + 1 < 2 ^ (i + 1)) := by have := HM.out; show _ < _; rw [Nat.pow_succ]; omega
                  clear h4 c4 hd' HP2 HC2
                  go_wp2
                  go_roundw
                  case rel => exact ⟨i + 1, 2 * m + 1, d', by omega, by go_num, by go_num, HP4.out, HO4.out, by rw [show n - (i + 1) = N1 by omega]; exact HD4.out, HM4.out, HC4.out⟩
                  case measure => simp [intOf]; omega
                · have HE : Hid (dirD bs n 0 d0 = .error 1) := by
                    show dirD bs n 0 d0 = _
                    rw [← HD.out]
                    show dirD bs (N1 + 1) m d = _
                    rw [dirD, if_neg HGOOD.out, hd']
                  have HC4 : Hid (Chg (fun _ => False) w0 w4) := chg_then HC2.out c4
                  clear c4 hd' HP2 HC2
                  go_wp2
                  go_ret2
                  exact .inl ⟨1, HE.out, rfl, HC4.out⟩
      · have HHP : Hid (Rc.hpartD d = ⟨d.n, d.R / 2, d.C⟩) := by show Rc.hpartD d = _; unfold Rc.hpartD; rw [if_neg (by have := HQ.out; have := HZC.out; omega)]
        have hdb0 : decide (q ≤ zc) = false := by simp; omega
        refine wp_region_last (mk := fun u => #[_, _, _, _, _, _, _, _, _, _, _, _, _, _, _, _, _, _, _, _, _, _, _, _, _, _, _, _, _, _, _, _, _, u 33, u 34, u 35, u 36, u 37, u 38, u 39, u 40, _, _, _, _, _, _, _, _, _, _, _, _, _, _, _, _, _, _, _, _, _, _, _, _, _, _, _, _, _, _, _, _, _, _, _]) (F := fun slot vv ww => (look [(33, .val (.pointer (some ⟨f, 0, none⟩))), (34, .val (.pointer (some ⟨f, 0, none⟩))), (35, .val (.pointer (some ⟨f, 3, none⟩))), (36, .val (.int .i64 zc)), (37, .val (.pointer (some ⟨f, 0, none⟩))), (38, .val (.pointer (some ⟨f, 0, none⟩))), (39, .val (.pointer (some ⟨f, 2, none⟩))), (40, .val (.int .i64 q))] slot).holds vv ww) (fun slot => match slot with | 33 => u33 | 34 => u34 | 35 => u35 | 36 => u36 | 37 => u37 | 38 => u38 | 39 => u39 | 40 => u40 | _ => undef) rfl (by kernel_rfl) 8 _ rfl rfl (by kernel_rfl) ?_ (fun _ v w w' hc h => Fact.stays _ v w w' hc h) ?_ ?_
        · repeat (refine ⟨⟨_, rfl, fun _ _ => rfl⟩, ?_⟩)
          exact trivial
        · refine ⟨?_, ?_, ?_, ?_, ?_, ?_, ?_, ?_, trivial⟩
          · intro u w hc hd K hK -- 33
            clear hd
            go_simp
            exact hK.out (.pointer (some ⟨f, 0, none⟩)) w (Chg.refl _ _) rfl
          · intro u w hc hd K hK -- 34
            have h33 : (Fact.val (.pointer (some ⟨f, 0, none⟩))).holds (u 33) w := hd.get 0 (by kernel_rfl)
            simp only [Fact.holds] at h33
            clear hd
            simp only [h33] at hK
            go_simp
            exact hK.out (.pointer (some ⟨f, 0, none⟩)) w (Chg.refl _ _) rfl
          · intro u w hc hd K hK -- 35
            have h34 : (Fact.val (.pointer (some ⟨f, 0, none⟩))).holds (u 34) w := hd.get 1 (by kernel_rfl)
            simp only [Fact.holds] at h34
            clear hd
            simp only [h34] at hK
            go_simp
            exact hK.out (.pointer (some ⟨f, 3, none⟩)) w (Chg.refl _ _) rfl
          · intro u w hc hd K hK -- 36
            have h35 : (Fact.val (.pointer (some ⟨f, 3, none⟩))).holds (u 35) w := hd.get 2 (by kernel_rfl)
            simp only [Fact.holds] at h35
            clear hd
            simp only [h35] at hK
            have hcell := cell_chg y3 hc
            go_simp
            exact hK.out _ _ (Chg.refl _ _) rfl
          · intro u w hc hd K hK -- 37
            clear hd
            go_simp
            exact hK.out (.pointer (some ⟨f, 0, none⟩)) w (Chg.refl _ _) rfl
          · intro u w hc hd K hK -- 38
            have h37 : (Fact.val (.pointer (some ⟨f, 0, none⟩))).holds (u 37) w := hd.get 4 (by kernel_rfl)
            simp only [Fact.holds] at h37
            clear hd
            simp only [h37] at hK
            go_simp
            exact hK.out (.pointer (some ⟨f, 0, none⟩)) w (Chg.refl _ _) rfl
          · intro u w hc hd K hK -- 39
            have h38 : (Fact.val (.pointer (some ⟨f, 0, none⟩))).holds (u 38) w := hd.get 5 (by kernel_rfl)
            simp only [Fact.holds] at h38
            clear hd
            simp only [h38] at hK
            go_simp
            exact hK.out (.pointer (some ⟨f, 2, none⟩)) w (Chg.refl _ _) rfl
          · intro u w hc hd K hK -- 40
            have h39 : (Fact.val (.pointer (some ⟨f, 2, none⟩))).holds (u 39) w := hd.get 6 (by kernel_rfl)
            simp only [Fact.holds] at h39
            clear hd
            simp only [h39] at hK
            have hcell := cell_chg y2 hc
            go_simp
            exact hK.out _ _ (Chg.refl _ _) rfl
        · intro u w hc hA K hK
          have e36 : u 36 = .int .i64 zc := hA.at 36 (by kernel_rfl)
          have e40 : u 40 = .int .i64 q := hA.at 40 (by kernel_rfl)
          clear hA
          have HP : Hid (Rdc w B f vv bs (Rc.hpartD d)) := by show Rdc _ _ _ _ _ _; rw [HHP.out]; exact HP1.out.new hc
          have HCW : Hid (Chg (fun _ => False) w0 w) := chg_then HCP1.out hc
          clear hc y2 y3 HP1 HCP1
          go_simp
          refine hK.out _ _ ?_
          clear hK e36 e40
          go_upto_region 13 with fail
          generalize w = W at *
          obtain ⟨_, _, x2, x3, _⟩ := rcells4 HP.out.blk
          rw [HHP.out] at x2 x3
          replace x2 : W.cell? ⟨f, 2, none⟩ = some (.int .i64 q) := by have h9 := HQ.out; rw [h9]; exact x2
          replace x3 : W.cell? ⟨f, 3, none⟩ = some (.int .i64 zc) := by
            have h9 := HZC.out
            have h8 := HQ.out
            rw [show zc = ((Rc.D.C ⟨d.n, d.R / 2, d.C⟩ : Nat) : Int) by show zc = ((d.C : Nat) : Int); omega]
            exact x3
          by_cases hbad : q ≤ zc
          · have HE : Hid (dirD bs n 0 d0 = .error 2) := by
              show dirD bs n 0 d0 = _
              rw [← HD.out]
              show dirD bs (N1 + 1) m d = _
              rw [dirD, if_pos (by rw [HHP.out]; show d.R / 2 ≤ d.C; have := HQ.out; have := HZC.out; omega)]
            have hdb : decide (zc < q) = false := by simp; omega
            go_wp2_with fail
            refine wp_region_last (mk := fun u => #[_, _, _, _, _, _, _, _, _, _, _, _, _, _, _, _, _, _, _, _, _, _, _, _, _, _, _, _, _, _, _, _, _, _, _, _, _, _, _, _, _, _, _, _, _, _, _, _, _, _, _, _, _, _, _, _, u 56, u 57, u 58, u 59, u 60, u 61, u 62, u 63, _, _, _, _, _, _, _, _, _, _, _, _]) (F := fun slot vv ww => (look [(56, .val (.pointer (some ⟨f, 0, none⟩))), (57, .val (.pointer (some ⟨f, 0, none⟩))), (58, .val (.pointer (some ⟨f, 3, none⟩))), (59, .val (.int .i64 zc)), (60, .val (.pointer (some ⟨f, 0, none⟩))), (61, .val (.pointer (some ⟨f, 0, none⟩))), (62, .val (.pointer (some ⟨f, 2, none⟩))), (63, .val (.int .i64 q))] slot).holds vv ww) (fun slot => match slot with | 56 => u56 | 57 => u57 | 58 => u58 | 59 => u59 | 60 => u60 | 61 => u61 | 62 => u62 | 63 => u63 | _ => undef) rfl (by kernel_rfl) 8 _ rfl rfl (by kernel_rfl) ?_ (fun _ v w w' hc h => Fact.stays _ v w w' hc h) ?_ ?_
            · repeat (refine ⟨⟨_, rfl, fun _ _ => rfl⟩, ?_⟩)
              exact trivial
            · refine ⟨?_, ?_, ?_, ?_, ?_, ?_, ?_, ?_, trivial⟩
              · intro u w hc hd K hK -- 56
                clear hd
                go_simp
                exact hK.out (.pointer (some ⟨f, 0, none⟩)) w (Chg.refl _ _) rfl
              · intro u w hc hd K hK -- 57
                have h56 : (Fact.val (.pointer (some ⟨f, 0, none⟩))).holds (u 56) w := hd.get 0 (by kernel_rfl)
                simp only [Fact.holds] at h56
                clear hd
                simp only [h56] at hK
                go_simp
                exact hK.out (.pointer (some ⟨f, 0, none⟩)) w (Chg.refl _ _) rfl
              · intro u w hc hd K hK -- 58
                have h57 : (Fact.val (.pointer (some ⟨f, 0, none⟩))).holds (u 57) w := hd.get 1 (by kernel_rfl)
                simp only [Fact.holds] at h57
                clear hd
                simp only [h57] at hK
                go_simp
                exact hK.out (.pointer (some ⟨f, 3, none⟩)) w (Chg.refl _ _) rfl
              · intro u w hc hd K hK -- 59
                have h58 : (Fact.val (.pointer (some ⟨f, 3, none⟩))).holds (u 58) w := hd.get 2 (by kernel_rfl)
                simp only [Fact.holds] at h58
                clear hd
                simp only [h58] at hK
                have hcell := cell_chg x3 hc
                go_simp
                exact hK.out _ _ (Chg.refl _ _) rfl
              · intro u w hc hd K hK -- 60
                clear hd
                go_simp
                exact hK.out (.pointer (some ⟨f, 0, none⟩)) w (Chg.refl _ _) rfl
              · intro u w hc hd K hK -- 61
                have h60 : (Fact.val (.pointer (some ⟨f, 0, none⟩))).holds (u 60) w := hd.get 4 (by kernel_rfl)
                simp only [Fact.holds] at h60
                clear hd
                simp only [h60] at hK
                go_simp
                exact hK.out (.pointer (some ⟨f, 0, none⟩)) w (Chg.refl _ _) rfl
              · intro u w hc hd K hK -- 62
                have h61 : (Fact.val (.pointer (some ⟨f, 0, none⟩))).holds (u 61) w := hd.get 5 (by kernel_rfl)
                simp only [Fact.holds] at h61
                clear hd
                simp only [h61] at hK
                go_simp
                exact hK.out (.pointer (some ⟨f, 2, none⟩)) w (Chg.refl _ _) rfl
              · intro u w hc hd K hK -- 63
                have h62 : (Fact.val (.pointer (some ⟨f, 2, none⟩))).holds (u 62) w := hd.get 6 (by kernel_rfl)
                simp only [Fact.holds] at h62
                clear hd
                simp only [h62] at hK
                have hcell := cell_chg x2 hc
                go_simp
                exact hK.out _ _ (Chg.refl _ _) rfl
            · intro u w hc hA K hK
              have e59 : u 59 = .int .i64 zc := hA.at 59 (by kernel_rfl)
              have e63 : u 63 = .int .i64 q := hA.at 63 (by kernel_rfl)
              clear hA
              have HC9 : Hid (Chg (fun _ => False) w0 w) := chg_then HCW.out hc
              clear hc
              go_simp
              refine hK.out _ _ ?_
              clear hK
              go_wp2
              go_ret2
              exact .inl ⟨2, HE.out, rfl, HC9.out⟩
          · have HGOOD : Hid (¬ (Rc.hpartD d).R ≤ (Rc.hpartD d).C) := by show ¬ _; rw [HHP.out]; show ¬ d.R / 2 ≤ d.C; have := HQ.out; have := HZC.out; omega
            have hdb : decide (q ≤ zc) = false := by simp; omega
            go_wp2_with fail
            refine wp_region_last (mk := fun u => #[_, _, _, _, _, _, _, _, _, _, _, _, _, _, _, _, _, _, _, _, _, _, _, _, _, _, _, _, _, _, _, _, _, _, _, _, _, _, _, _, _, _, _, _, _, _, _, _, _, _, _, _, _, _, _, _, u 56, u 57, u 58, u 59, u 60, u 61, u 62, u 63, _, _, _, _, _, _, _, _, _, _, _, _]) (F := fun slot vv ww => (look [(56, .val (.pointer (some ⟨f, 0, none⟩))), (57, .val (.pointer (some ⟨f, 0, none⟩))), (58, .val (.pointer (some ⟨f, 3, none⟩))), (59, .val (.int .i64 zc)), (60, .val (.pointer (some ⟨f, 0, none⟩))), (61, .val (.pointer (some ⟨f, 0, none⟩))), (62, .val (.pointer (some ⟨f, 2, none⟩))), (63, .val (.int .i64 q))] slot).holds vv ww) (fun slot => match slot with | 56 => u56 | 57 => u57 | 58 => u58 | 59 => u59 | 60 => u60 | 61 => u61 | 62 => u62 | 63 => u63 | _ => undef) rfl (by kernel_rfl) 8 _ rfl rfl (by kernel_rfl) ?_ (fun _ v w w' hc h => Fact.stays _ v w w' hc h) ?_ ?_
            · repeat (refine ⟨⟨_, rfl, fun _ _ => rfl⟩, ?_⟩)
              exact trivial
            · refine ⟨?_, ?_, ?_, ?_, ?_, ?_, ?_, ?_, trivial⟩
              · intro u w hc hd K hK -- 56
                clear hd
                go_simp
                exact hK.out (.pointer (some ⟨f, 0, none⟩)) w (Chg.refl _ _) rfl
              · intro u w hc hd K hK -- 57
                have h56 : (Fact.val (.pointer (some ⟨f, 0, none⟩))).holds (u 56) w := hd.get 0 (by kernel_rfl)
                simp only [Fact.holds] at h56
                clear hd
                simp only [h56] at hK
                go_simp
                exact hK.out (.pointer (some ⟨f, 0, none⟩)) w (Chg.refl _ _) rfl
              · intro u w hc hd K hK -- 58
                have h57 : (Fact.val (.pointer (some ⟨f, 0, none⟩))).holds (u 57) w := hd.get 1 (by kernel_rfl)
                simp only [Fact.holds] at h57
                clear hd
                simp only [h57] at hK
                go_simp
                exact hK.out (.pointer (some ⟨f, 3, none⟩)) w (Chg.refl _ _) rfl
              · intro u w hc hd K hK -- 59
                have h58 : (Fact.val (.pointer (some ⟨f, 3, none⟩))).holds (u 58) w := hd.get 2 (by kernel_rfl)
                simp only [Fact.holds] at h58
                clear hd
                simp only [h58] at hK
                have hcell := cell_chg x3 hc
                go_simp
                exact hK.out _ _ (Chg.refl _ _) rfl
              · intro u w hc hd K hK -- 60
                clear hd
                go_simp
                exact hK.out (.pointer (some ⟨f, 0, none⟩)) w (Chg.refl _ _) rfl
              · intro u w hc hd K hK -- 61
                have h60 : (Fact.val (.pointer (some ⟨f, 0, none⟩))).holds (u 60) w := hd.get 4 (by kernel_rfl)
                simp only [Fact.holds] at h60
                clear hd
                simp only [h60] at hK
                go_simp
                exact hK.out (.pointer (some ⟨f, 0, none⟩)) w (Chg.refl _ _) rfl
              · intro u w hc hd K hK -- 62
                have h61 : (Fact.val (.pointer (some ⟨f, 0, none⟩))).holds (u 61) w := hd.get 5 (by kernel_rfl)
                simp only [Fact.holds] at h61
                clear hd
                simp only [h61] at hK
                go_simp
                exact hK.out (.pointer (some ⟨f, 2, none⟩)) w (Chg.refl _ _) rfl
              · intro u w hc hd K hK -- 63
                have h62 : (Fact.val (.pointer (some ⟨f, 2, none⟩))).holds (u 62) w := hd.get 6 (by kernel_rfl)
                simp only [Fact.holds] at h62
                clear hd
                simp only [h62] at hK
                have hcell := cell_chg x2 hc
                go_simp
                exact hK.out _ _ (Chg.refl _ _) rfl
            · intro u w hc hA K hK
              have e59 : u 59 = .int .i64 zc := hA.at 59 (by kernel_rfl)
              have e63 : u 63 = .int .i64 q := hA.at 63 (by kernel_rfl)
              clear hA
              have HP2 : Hid (Rdc w B f vv bs (Rc.hpartD d)) := HP.out.new hc
              have HC2 : Hid (Chg (fun _ => False) w0 w) := chg_then HCW.out hc
              clear hc
              go_simp
              refine hK.out _ _ ?_
              clear hK x2 x3
              go_wp2_with fail
              refine (rdwiden_any B f vv bs (Rc.hpartD d) _ HP2.out (by have := HGOOD.out; omega) HHN.out hl).mono ?_
              rintro z9 w4 (⟨d', hd', rfl, h4, c4⟩ | ⟨hd', rfl, c4⟩)
              · have HP4 : Hid (Rdc w4 B f vv bs d') := h4
                have HC4 : Hid (Chg (fun _ => False) w0 w4) := HC2.out.trans c4 (fun z e => .inr (by have := HFN.out; omega))
                have HD4 : Hid (dirD bs N1 (2 * m) d' = dirD bs n 0 d0) := by
                  show dirD bs N1 (2 * m) d' = _
                  rw [← HD.out]
                  show _ = dirD bs (N1 + 1) m d
                  rw [dirD, if_neg HGOOD.out, hd']
                  rw [if_neg (by have := HQ.out; have := HZC.out; omega)]
                  rw [Nat.add_zero]
                have HO4 : Hid (OkD bs d') := okd_half HDIG.out HOK.out HGOOD.out hd'
                have HM4 : Hid (2 * m < 2 ^ (i + 1)) := by have := HM.out; show _ < _; rw [Nat.pow_succ]; omega
                clear h4 c4 hd' HP2 HC2
                go_wp2
                go_roundw
                case rel => exact ⟨i + 1, 2 * m, d', by omega, by go_num, by go_num, HP4.out, HO4.out, by rw [show n - (i + 1) = N1 by omega]; exact HD4.out, HM4.out, HC4.out⟩
                case measure => simp [intOf]; omega
              · have HE : Hid (dirD bs n 0 d0 = .error 1) := by
                  show dirD bs n 0 d0 = _
                  rw [← HD.out]
                  show dirD bs (N1 + 1) m d = _
                  rw [dirD, if_neg HGOOD.out, hd']
                have HC4 : Hid (Chg (fun _ => False) w0 w4) := chg_then HC2.out c4
                clear c4 hd' HP2 HC2
                go_wp2
                go_ret2
                exact .inl ⟨1, HE.out, rfl, HC4.out⟩
    · obtain rfl : i = n := by omega
      have hE : dirD bs i 0 d0 = .ok (m, d) := by rw [← HD.out, Nat.sub_self]; rfl
      have HE : Hid (dirD bs i 0 d0 = .ok (m, d)) := hE
      have hdi : decide ((i : Int) < (i : Int)) = false := by simp
      have hvv : vv = .slice ad L cap := by rw [HVV.out]; exact HV.out
      have HR4 := HH.out.new HC.out
      rw [hvv] at HF
      rw [HV.out] at HR4
      obtain ⟨y0, y1, y2, y3, _⟩ := rcells4 HF.out.blk
      obtain ⟨x0, x1, x2, x3, xf⟩ := rcells4 HR4.blk
      have xf0 := xf 0
      have xf1 := xf 1
      have xf2 := xf 2
      have xf3 := xf 3
      obtain ⟨hc5, cc5⟩ := HR4.copy (d' := d) (d.n : Int) (d.R : Int) (d.C : Int) rfl rfl rfl
      have H5 : Hid (Rdc ((((wr.setCell ⟨r, 0, none⟩ (.slice ad L cap)).setCell ⟨r, 1, none⟩ (.int .i64 (d.n : Int))).setCell ⟨r, 2, none⟩ (.int .i64 (d.R : Int))).setCell ⟨r, 3, none⟩ (.int .i64 (d.C : Int))) B r v bs d) := by show Rdc _ _ _ _ _ _; rw [HV.out]; exact hc5
      have HC5 : Hid (Chg (fun z => z = r) w0 ((((wr.setCell ⟨r, 0, none⟩ (.slice ad L cap)).setCell ⟨r, 1, none⟩ (.int .i64 (d.n : Int))).setCell ⟨r, 2, none⟩ (.int .i64 (d.R : Int))).setCell ⟨r, 3, none⟩ (.int .i64 (d.C : Int)))) := (HC.out.mono (fun _ e => e.elim)).trans cc5 (fun _ e => .inl e)
      have hfr : f ≠ r := by have := HFN.out; have := lt_of_blk HH.out.blk; omega
      have hwm : IntKind.u32.wrap (m : Int) = (m : Int) := by simp [IntKind.wrap, IntKind.signed, IntKind.bits]; omega
      clear hE hvv HR4 hc5 cc5 xf HF HC
      go_wp2
      go_ret2
      exact .inr ⟨m, d, HE.out, HM.out, HOK.out, rfl, H5.out, HC5.out⟩
end Go.Proofs.Ytibgjpifmpljkaa

/- Questions over natural numbers: what is encoded is read again (P8.6), first bytes are read as all of them (P8.7); of no statement by itself. -/
namespace Go.Proofs.Ytibgjpifmpljkaa
open Go.RowKit
set_option linter.unusedVariables false

/-- A question: without a probability, or by one; what is encoded there. -/
structure Q where
  d : Bool
  i : Int
  n : Int
  v : Nat
/-- May it be asked? -/
def Q.ok (q : Q) (len : Nat) : Prop := if q.d then 0 ≤ q.n ∧ q.n ≤ 32 else 0 ≤ q.i ∧ q.i < (len : Int)
instance (q : Q) (len : Nat) : Decidable (q.ok len) := by unfold Q.ok; infer_instance
def Q.bits (q : Q) : Nat := if q.d then q.n.toNat else 1
def pAt (xs : List Int) (i : Int) : Int := xs.getD i.toNat 1024
def pSet (xs : List Int) (i b : Int) : List Int := xs.set i.toNat (Prob.nx (pAt xs i) b)
def encE (q : Q) (e : Rc.E) (xs : List Int) : Rc.E := if q.d then direct q.v q.n.toNat e else coded e (pAt xs q.i) ((q.v % 2 : Nat) : Int)
def encX (q : Q) (xs : List Int) : List Int := if q.d then xs else pSet xs q.i ((q.v % 2 : Nat) : Int)
/-- The answer: an error, or the value, the decoder and the row behind it. -/
def decA (bs : List Nat) (q : Q) (d : Rc.D) (xs : List Int) : Except Nat (Nat × Rc.D × List Int) :=
  if q.ok xs.length then
    if q.d then match dirD bs q.n.toNat 0 d with
      | .error e => .error e
      | .ok (v, d') => .ok (v, d', xs)
    else match Rc.cutD bs d (d.R / 2048 * (pAt xs q.i).toNat) with
      | none => .error 1
      | some d' => .ok ((bt (Rc.oneD d (d.R / 2048 * (pAt xs q.i).toNat))).toNat, d', pSet xs q.i (bt (Rc.oneD d (d.R / 2048 * (pAt xs q.i).toNat))))
  else .error 7

theorem pAt_in {xs : List Int} (h : In31 xs) (i : Int) : 31 ≤ pAt xs i ∧ pAt xs i ≤ 2017 := by
  unfold pAt
  rw [List.getD_eq_getElem?_getD]
  cases e : xs[i.toNat]? with
  | none => exact ⟨by decide, by decide⟩
  | some x => exact h x (List.mem_of_getElem? e)
theorem pSet_in {xs : List Int} (h : In31 xs) (i b : Int) : In31 (pSet xs i b) := h.set _ _ (Prob.nx_lo (pAt_in h i).1 (pAt_in h i).2)
theorem pSet_len (xs : List Int) (i b : Int) : (pSet xs i b).length = xs.length := by simp [pSet]
theorem encX_in {xs : List Int} (h : In31 xs) (q : Q) : In31 (encX q xs) := by
  unfold encX
  split
  · exact h
  · exact pSet_in h _ _
theorem encX_len (q : Q) (xs : List Int) : (encX q xs).length = xs.length := by
  unfold encX
  split
  · rfl
  · exact pSet_len _ _ _

theorem direct_within (x : Nat) : ∀ (m : Nat) (e : Rc.E), Rc.Within e (direct x m e)
  | 0, e => Rc.Within.refl e
  | m + 1, e => (Rc.half_within e _).trans (direct_within x m _)
theorem coded_within {e : Rc.E} (hO : Rc.Ok e) {p : Int} (hp : 31 ≤ p ∧ p ≤ 2017) (b : Int) : Rc.Within e (coded e p b) := by
  have hb := Rc.bound_in (R := e.R) (p := p.toNat) hO.lo (by omega) (by omega)
  exact Rc.cut_within (by omega) _
theorem encE_within {e : Rc.E} (hO : Rc.Ok e) {xs : List Int} (hI : In31 xs) (q : Q) : Rc.Within e (encE q e xs) := by
  unfold encE
  split
  · exact direct_within _ _ _
  · exact coded_within hO (pAt_in hI _) _
theorem encE_ok {e : Rc.E} (hO : Rc.Ok e) {xs : List Int} (hI : In31 xs) (q : Q) : Rc.Ok (encE q e xs) := by
  unfold encE
  split
  · exact direct_ok _ _ hO
  · exact coded_ok hO (pAt_in hI _).1 (pAt_in hI _).2

theorem dir_tracks {F : Rc.E} {b : List Nat} (hb : Rc.Begins F b) (hF : 0 < F.R) (x : Nat) : ∀ (m v0 : Nat) (e : Rc.E) (d : Rc.D), Rc.Tracks e F d → Rc.Within (direct x m e) F → ∃ d', dirD b m v0 d = .ok (2 ^ m * v0 + x % 2 ^ m, d') ∧ Rc.Tracks (direct x m e) F d'
  | 0, v0, e, d, ht, _ => ⟨d, by simp [dirD, Nat.mod_one], ht⟩
  | m + 1, v0, e, d, ht, hw => by
    have hw1 : Rc.Within (Rc.half e (decide (x / 2 ^ m % 2 = 1))) F := (direct_within x m _).trans hw
    obtain ⟨h1, h2, d1, h3, h4⟩ := Rc.half_tracks hb ht hF hw1
    obtain ⟨d', h5, h6⟩ := dir_tracks hb hF x m (2 * v0 + if d.R / 2 ≤ d.C then 1 else 0) _ d1 h4 hw
    refine ⟨d', ?_, h6⟩
    unfold Rc.halfD at h3
    rw [dirD, if_neg h2, h3]
    show dirD b m _ d1 = _
    rw [h5]
    have h7 : (if d.R / 2 ≤ d.C then 1 else 0) = x / 2 ^ m % 2 := by
      unfold Rc.oneD at h1
      have h8 : (d.R / 2 ≤ d.C) ↔ x / 2 ^ m % 2 = 1 := by simpa using h1
      by_cases h9 : x / 2 ^ m % 2 = 1
      · rw [if_pos (h8.2 h9), h9]
      · rw [if_neg (fun k => h9 (h8.1 k))]
        omega
    rw [h7, Nat.mod_pow_succ, Nat.pow_succ]
    congr 2
    rw [Nat.mul_add, Nat.mul_comm (2 ^ m) (x / 2 ^ m % 2), Nat.mul_assoc]
    omega

/-- What was encoded is read again. -/
theorem step_back {F : Rc.E} {b : List Nat} (hb : Rc.Begins F b) (hF : 0 < F.R) (q : Q) {e : Rc.E} {d : Rc.D} {xs : List Int} (hO : Rc.Ok e) (hI : In31 xs) (hq : q.ok xs.length) (ht : Rc.Tracks e F d) (hw : Rc.Within (encE q e xs) F) :
    ∃ d', decA b q d xs = .ok (q.v % 2 ^ q.bits, d', encX q xs) ∧ Rc.Tracks (encE q e xs) F d' := by
  unfold decA
  rw [if_pos hq]
  unfold encE encX Q.bits at *
  by_cases hd : q.d = true
  · rw [if_pos hd] at hw
    rw [if_pos hd, if_pos hd, if_pos hd, if_pos hd]
    obtain ⟨d', h1, h2⟩ := dir_tracks hb hF q.v q.n.toNat 0 e d ht hw
    rw [h1, Nat.mul_zero, Nat.zero_add]
    exact ⟨d', rfl, h2⟩
  · rw [if_neg hd] at hw
    rw [if_neg hd, if_neg hd, if_neg hd, if_neg hd]
    have hR := ht.R
    unfold coded at hw ⊢
    rw [← hR] at hw ⊢
    obtain ⟨h1, d', h2, h3⟩ := Rc.cut_tracks hb ht hF hw
    rw [h2, h1]
    have e1 : bt (decide (((q.v % 2 : Nat) : Int) ≠ 0)) = ((q.v % 2 : Nat) : Int) := by
      unfold bt
      by_cases h : q.v % 2 = 0
      · rw [h]; rfl
      · rw [show q.v % 2 = 1 by omega]; rfl
    rw [e1]
    exact ⟨d', by rw [Int.toNat_natCast, Nat.pow_one], h3⟩

/-- All that may be asked is encoded. -/
def encL : List Q → Rc.E → List Int → Rc.E × List Int
  | [], e, xs => (e, xs)
  | q :: l, e, xs => if q.ok xs.length then encL l (encE q e xs) (encX q xs) else encL l e xs
/-- All is asked, up to the first that is refused: the values, the decoder, the row, and were all answered? -/
def decL (b : List Nat) : List Q → Rc.D → List Int → List Nat × Rc.D × List Int × Bool
  | [], d, xs => ([], d, xs, true)
  | q :: l, d, xs => match decA b q d xs with
    | .error _ => ([], d, xs, false)
    | .ok (v, d', xs') => (v :: (decL b l d' xs').1, (decL b l d' xs').2)

theorem encL_within : ∀ (l : List Q) {e : Rc.E} {xs : List Int}, Rc.Ok e → In31 xs → Rc.Within e (encL l e xs).1 ∧ Rc.Ok (encL l e xs).1 ∧ In31 (encL l e xs).2
  | [], e, xs, hO, hI => ⟨Rc.Within.refl e, hO, hI⟩
  | q :: l, e, xs, hO, hI => by
    unfold encL
    split
    · obtain ⟨h1, h2, h3⟩ := encL_within l (encE_ok hO hI q) (encX_in hI q)
      exact ⟨(encE_within hO hI q).trans h1, h2, h3⟩
    · exact encL_within l hO hI
theorem all_back {F : Rc.E} {b : List Nat} (hb : Rc.Begins F b) (hF : 0 < F.R) : ∀ (l : List Q) {e : Rc.E} {d : Rc.D} {xs : List Int}, Rc.Ok e → In31 xs → (∀ q ∈ l, q.ok xs.length) → Rc.Tracks e F d → Rc.Within (encL l e xs).1 F →
    ∃ d', decL b l d xs = (l.map (fun q => q.v % 2 ^ q.bits), d', (encL l e xs).2, true) ∧ Rc.Tracks (encL l e xs).1 F d'
  | [], e, d, xs, _, _, _, ht, _ => ⟨d, rfl, ht⟩
  | q :: l, e, d, xs, hO, hI, hq, ht, hw => by
    have hq0 := hq q (List.mem_cons_self ..)
    unfold encL at hw ⊢
    rw [if_pos hq0] at hw ⊢
    have hO' := encE_ok hO hI q
    have hI' := encX_in hI q
    obtain ⟨d1, h1, h2⟩ := step_back hb hF q hO hI hq0 ht ((encL_within l hO' hI').1.trans hw)
    obtain ⟨d', h3, h4⟩ := all_back hb hF l hO' hI' (fun r hr => by rw [encX_len]; exact hq r (List.mem_cons_of_mem _ hr)) h2 hw
    refine ⟨d', ?_, h4⟩
    unfold decL
    rw [h1]
    show (_ :: (decL b l d1 (encX q xs)).1, (decL b l d1 (encX q xs)).2) = _
    rw [h3]
    rfl

/-- The first bytes of b. -/
structure Pre (c b : List Nat) : Prop where
  len : c.length ≤ b.length
  eq : ∀ i, i < c.length → c.getD i 0 = b.getD i 0
theorem pre_take (b : List Nat) (k : Nat) : Pre (b.take k) b := ⟨by rw [List.length_take]; omega, fun i hi => by
  rw [List.length_take] at hi
  rw [List.getD_eq_getElem?_getD, List.getD_eq_getElem?_getD, List.getElem?_take, if_pos (by omega)]⟩
theorem Pre.widen {c b : List Nat} (h : Pre c b) {d d' : Rc.D} (hw : Rc.widenD c d = some d') : Rc.widenD b d = some d' := by
  unfold Rc.widenD at *
  split at hw
  · rename_i hR
    split at hw
    · rename_i hn
      have := h.len
      rw [if_pos hR, if_pos (by omega), ← h.eq _ hn]
      exact hw
    · cases hw
  · rename_i hR
    rw [if_neg hR]
    exact hw
theorem Pre.dir {c b : List Nat} (h : Pre c b) : ∀ (m v : Nat) (d : Rc.D) {r : Nat × Rc.D}, dirD c m v d = .ok r → dirD b m v d = .ok r
  | 0, v, d, r, e => e
  | m + 1, v, d, r, e => by
    rw [dirD] at e ⊢
    split at e
    · cases e
    · rename_i hg
      rw [if_neg hg]
      cases e1 : Rc.widenD c (Rc.hpartD d) with
      | none => rw [e1] at e; cases e
      | some d1 =>
        rw [e1] at e
        rw [h.widen e1]
        exact Pre.dir h m _ d1 e
/-- Where the first bytes are answered, all of them are answered so. -/
theorem Pre.step {c b : List Nat} (h : Pre c b) (q : Q) {d : Rc.D} {xs : List Int} {r : Nat × Rc.D × List Int} (e : decA c q d xs = .ok r) : decA b q d xs = .ok r := by
  unfold decA at *
  split at e
  · rename_i hq
    rw [if_pos hq]
    split at e
    · rename_i hd
      rw [if_pos hd]
      cases e1 : dirD c q.n.toNat 0 d with
      | error x => rw [e1] at e; cases e
      | ok y => rw [e1] at e; rw [h.dir _ _ _ e1]; exact e
    · rename_i hd
      rw [if_neg hd]
      cases e1 : Rc.cutD c d (d.R / 2048 * (pAt xs q.i).toNat) with
      | none => rw [e1] at e; cases e
      | some y => rw [e1] at e; rw [show Rc.cutD b d (d.R / 2048 * (pAt xs q.i).toNat) = some y from h.widen e1]; exact e
  · cases e
theorem Pre.all {c b : List Nat} (h : Pre c b) : ∀ (l : List Q) (d : Rc.D) (xs : List Int), ∃ t, (decL b l d xs).1 = (decL c l d xs).1 ++ t
  | [], d, xs => ⟨[], rfl⟩
  | q :: l, d, xs => by
    unfold decL
    cases e : decA c q d xs with
    | error x => exact ⟨_, rfl⟩
    | ok r =>
      obtain ⟨v, d', xs'⟩ := r
      rw [h.step q e]
      obtain ⟨t, ht⟩ := Pre.all h l d' xs'
      exact ⟨t, by show _ :: (decL b l d' xs').1 = _ :: (decL c l d' xs').1 ++ t; rw [ht]; rfl⟩

/-- A decoder that stands stays one. -/
theorem okd_widen {bs : List Nat} {d d' : Rc.D} (hdig : Rc.Dig bs) (h1 : 65536 ≤ d.R) (h2 : d.R ≤ 4294967295) (h3 : d.C < d.R) (h4 : d.n ≤ bs.length) (hw : Rc.widenD bs d = some d') : OkD bs d' := by
  unfold Rc.widenD at hw
  split at hw
  · split at hw
    · simp only [Option.some.injEq] at hw
      subst hw
      have := dig_at hdig d.n
      exact ⟨by show 16777216 ≤ 256 * _; omega, by show 256 * _ ≤ _; omega, by show 256 * d.C + _ < 256 * d.R; omega, by show d.n + 1 ≤ _; omega⟩
    · cases hw
  · simp only [Option.some.injEq] at hw
    subst hw
    exact ⟨by omega, h2, h3, h4⟩
theorem okd_cut {bs : List Nat} {d d' : Rc.D} (hdig : Rc.Dig bs) (h : OkD bs d) {p : Int} (hp : 31 ≤ p ∧ p ≤ 2017) (hw : Rc.cutD bs d (d.R / 2048 * p.toNat) = some d') : OkD bs d' := by
  have hb := Rc.bound_in (R := d.R) (p := p.toNat) h.lo (by omega) (by omega)
  have h2 := h.hi
  have h3 := h.lt
  have h4 := h.n
  unfold Rc.cutD Rc.partD at hw
  generalize d.R / 2048 * p.toNat = x at *
  split at hw
  · exact okd_widen (d := ⟨d.n, d.R - x, d.C - x⟩) hdig (by show 65536 ≤ d.R - x; omega) (by show d.R - x ≤ _; omega) (by show d.C - x < d.R - x; omega) h4 hw
  · exact okd_widen (d := ⟨d.n, x, d.C⟩) hdig (by show 65536 ≤ x; omega) (by show x ≤ _; omega) (by show d.C < x; omega) h4 hw
theorem okd_dir {bs : List Nat} (hdig : Rc.Dig bs) : ∀ (m v : Nat) {d : Rc.D} {r : Nat × Rc.D}, OkD bs d → dirD bs m v d = .ok r → OkD bs r.2 ∧ r.1 < 2 ^ m * (v + 1)
  | 0, v, d, r, h, e => by
    simp only [dirD, Except.ok.injEq] at e
    subst e
    exact ⟨h, by show v < 2 ^ 0 * (v + 1); omega⟩
  | m + 1, v, d, r, h, e => by
    rw [dirD] at e
    split at e
    · cases e
    · rename_i hg
      cases e1 : Rc.widenD bs (Rc.hpartD d) with
      | none => rw [e1] at e; cases e
      | some d1 =>
        rw [e1] at e
        obtain ⟨h1, h2⟩ := okd_dir hdig m _ (okd_half hdig h hg e1) e
        refine ⟨h1, Nat.lt_of_lt_of_le h2 ?_⟩
        rw [Nat.pow_succ, Nat.mul_assoc]
        refine Nat.mul_le_mul (Nat.le_refl _) ?_
        split <;> omega
theorem decA_ok {bs : List Nat} (hdig : Rc.Dig bs) {q : Q} {d d' : Rc.D} {xs xs' : List Int} {v : Nat} (h : OkD bs d) (hI : In31 xs) (e : decA bs q d xs = .ok (v, d', xs')) : q.ok xs.length ∧ v < 2 ^ q.bits ∧ OkD bs d' ∧ In31 xs' ∧ xs'.length = xs.length := by
  unfold decA at e
  split at e
  · rename_i hq
    refine ⟨hq, ?_⟩
    unfold Q.bits
    split at e
    · rename_i hd
      rw [if_pos hd]
      cases e1 : dirD bs q.n.toNat 0 d with
      | error x => rw [e1] at e; cases e
      | ok y =>
        rw [e1] at e
        obtain ⟨h1, h2⟩ := okd_dir hdig _ _ h e1
        simp only [Except.ok.injEq, Prod.mk.injEq] at e
        obtain ⟨rfl, rfl, rfl⟩ := e
        exact ⟨by simpa using h2, h1, hI, rfl⟩
    · rename_i hd
      rw [if_neg hd]
      cases e1 : Rc.cutD bs d (d.R / 2048 * (pAt xs q.i).toNat) with
      | none => rw [e1] at e; cases e
      | some y =>
        rw [e1] at e
        simp only [Except.ok.injEq, Prod.mk.injEq] at e
        obtain ⟨rfl, rfl, rfl⟩ := e
        refine ⟨?_, okd_cut hdig h (pAt_in hI _) e1, pSet_in hI _ _, pSet_len _ _ _⟩
        unfold bt
        split <;> decide
  · cases e

/-- The questions with their answers as what is encoded. -/
def relay : List Nat → List Q → List Q
  | v :: x, q :: l => ⟨q.d, q.i, q.n, v⟩ :: relay x l
  | _, _ => []
theorem relay_all {bs : List Nat} (hdig : Rc.Dig bs) : ∀ (l : List Q) {d : Rc.D} {xs : List Int}, OkD bs d → In31 xs → (∀ q ∈ relay (decL bs l d xs).1 l, q.ok xs.length) ∧ (relay (decL bs l d xs).1 l).map (fun q => q.v % 2 ^ q.bits) = (decL bs l d xs).1
  | [], d, xs, _, _ => ⟨fun q hq => (List.not_mem_nil hq).elim, rfl⟩
  | q :: l, d, xs, hO, hI => by
    unfold decL
    cases e : decA bs q d xs with
    | error x => exact ⟨fun q hq => (List.not_mem_nil hq).elim, rfl⟩
    | ok r =>
      obtain ⟨v, d', xs'⟩ := r
      obtain ⟨h1, h2, h3, h4, h5⟩ := decA_ok hdig hO hI e
      obtain ⟨k1, k2⟩ := relay_all hdig l h3 h4
      refine ⟨fun r hr => ?_, ?_⟩
      · rcases List.mem_cons.1 hr with rfl | hr
        · exact h1
        · rw [← h5]; exact k1 r hr
      · show (v % 2 ^ q.bits) :: (relay (decL bs l d' xs').1 l).map (fun q => q.v % 2 ^ q.bits) = v :: (decL bs l d' xs').1
        rw [k2, Nat.mod_eq_of_lt h2]
end Go.Proofs.Ytibgjpifmpljkaa
