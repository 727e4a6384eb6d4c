/- The walk of HeadGets; of no statement by itself. -/
import Derived.Test.YtkncbanodpfccaaDoorHdr
namespace Go.Proofs.YtkncbanodpfccaaDoor
open Go.RowKit
open St12
set_option linter.unusedVariables false
set_option linter.unusedSimpArgs false
/-- As another list has them: the same slices. -/
def Sls (q l : List FlV) : Prop := q.length = l.length ∧ ∀ (k : Nat) (x : FlV), q[k]? = some x → ∃ y, l[k]? = some y ∧ y.a = x.a ∧ y.n = x.n ∧ y.c = x.c
theorem Sls.refl (l : List FlV) : Sls l l := ⟨rfl, fun k x h => ⟨x, h, rfl, rfl, rfl⟩⟩
theorem Sls.set {q l : List FlV} (h : Sls q l) {i : Nat} {x y : FlV} (hx : q[i]? = some x) (h1 : y.a = x.a) (h2 : y.n = x.n) (h3 : y.c = x.c) : Sls (q.set i y) l := ⟨by rw [List.length_set]; exact h.1, fun k z e => by
  rcases set_at e with ⟨rfl, rfl, _⟩ | ⟨_, e2⟩
  · obtain ⟨u, a, b, c, d⟩ := h.2 k x hx
    exact ⟨u, a, by rw [b, h1], by rw [c, h2], by rw [d, h3]⟩
  · exact h.2 k z e2⟩
/-- The first i of them are marked. -/
def Mkd (q : List FlV) (i : Nat) : Prop := ∀ (k : Nat) (x : FlV), q[k]? = some x → k < i → x.id = 70 + k ∧ x.bs = List.replicate x.n (7 + k)
theorem Mkd.set {q : List FlV} {i j : Nat} {y : FlV} (h : Mkd q i) (hj : i ≤ j) : Mkd (q.set j y) i := fun k x e hk => by
  rcases set_at e with ⟨rfl, _⟩ | ⟨_, e2⟩
  · omega
  · exact h k x e2 hk
theorem Mkd.next {q : List FlV} {i : Nat} {x : FlV} (h : Mkd q i) (hx : q[i]? = some x) (hb : x.bs = List.replicate x.n (7 + i)) : Mkd (q.set i { x with id := 70 + i }) (i + 1) := fun k z e hk => by
  rcases set_at e with ⟨rfl, rfl, _⟩ | ⟨hne, e2⟩
  · exact ⟨rfl, hb⟩
  · exact h k z e2 (by omega)
theorem take_set_next {xs : List Nat} {k v : Nat} (hk : k < xs.length) (h : xs.take k = List.replicate k v) : (xs.set k v).take (k + 1) = List.replicate (k + 1) v := by
  rw [List.take_add_one, List.take_set_of_le (Nat.le_refl k), h, List.getElem?_set_self hk, List.replicate_succ']
  rfl
/-- Blocks between two sizes. -/
def Zr (lo hi : Nat) (g : Nat) : Prop := lo ≤ g ∧ g < hi
theorem Of0.row {B : Nat} {w : World} {lv : Value} {q : List FlV} (h : Of0 B w lv q) {k : Nat} {x : FlV} (e : q[k]? = some x) : Row8 w x.a x.n x.c (nums x.bs) ∧ x.bs.length = x.n ∧ x.n ≤ 140737488351232 := by
  obtain ⟨h1, _, _, h4⟩ := h.pcs k x e
  obtain ⟨a, b, _⟩ := byO_row h1
  exact ⟨a, b, h4⟩
theorem Of0.cellsF {B : Nat} {w : World} {fa : Option Addr} {fn fc : Nat} {q : List FlV} (h : Of0 B w (.slice fa fn fc) q) (hl : q.length = fn) {i : Nat} {x : FlV} (hx : q[i]? = some x) : ∃ gl, fa = some ⟨gl, 0, none⟩ ∧ w.cell? ⟨gl, i * 2, none⟩ = some (.int .u64 (x.id : Int)) ∧ w.cell? ⟨gl, i * 2 + 1, none⟩ = some (.slice x.a x.n x.c) ∧ (∀ j, w.frozen? ⟨gl, j, none⟩ = false) ∧ gl < w.heap.size := by
  have hil := (List.getElem?_eq_some_iff.1 hx).1
  obtain ⟨gl, cc, e, hcc, hB, hlt⟩ := owns_someF h.own (by omega)
  simp only [Value.slice.injEq] at e
  obtain ⟨rfl, _, rfl⟩ := e
  obtain ⟨a0, a1⟩ := flcs_at q i x hx
  have hfl := flcs_len q
  obtain ⟨cur, hcur⟩ := owns_blkF h.own (g := gl) rfl
  have hown := h.own
  unfold FlO at hown
  rw [hl] at hown
  exact ⟨gl, rfl, by rw [hown.cellAt (i * 2) (by omega)]; exact a0, by rw [hown.cellAt (i * 2 + 1) (by omega)]; exact a1, fun j => by simp [World.frozen?, hcur], hlt⟩
theorem byO_cellF {B : Nat} {w : World} {a : Option Addr} {n c : Nat} {bs : List Nat} (h : ByO w B (.slice a n c) bs) (hl : bs.length = n) {k : Nat} (hk : k < n) : ∃ g, a = some ⟨g, 0, none⟩ ∧ w.cell? ⟨g, k, none⟩ = some (.int .u8 ((bs.getD k 0 : Nat) : Int)) ∧ w.frozen? ⟨g, k, none⟩ = false := by
  rcases byO_ad h with ⟨_, rfl⟩ | ⟨g, rfl⟩
  · simp at hl; omega
  · obtain ⟨b, off, e, hcs⟩ := row8_at (byO_row h).1 (by omega)
    simp only [Option.some.injEq, Addr.mk.injEq, and_true] at e
    obtain ⟨rfl, rfl⟩ := e
    have h1 := hcs k hk
    rw [Nat.zero_add] at h1
    obtain ⟨cur, hcur⟩ := ownsRow_blk h (g := g) rfl
    exact ⟨g, rfl, h1, by simp [World.frozen?, hcur]⟩
/-- A list of filters that another grows behind is as it was. -/
theorem Of0.more {B : Nat} {w w' : World} {lv : Value} {q : List FlV} {n : Nat} (h : Of0 B w lv q) (hn : q.length = n) (hg : w.grownBy w' lv.ownBlock) (hk : w'.ownsRow B 54 2 lv n (flcs q)) : Of0 B w' lv q := by
  have hC : Chg (fun g => lv.ownBlock = some g) w w' := (Chg.refl _ w).grown hg (fun g e => .inl e)
  refine ⟨by unfold FlO; rw [hn]; exact hk, fun k y e => ⟨ownsRow_keep (h.pcs k y e).1 hC (fun g e1 f => ?_), (h.pcs k y e).2⟩⟩
  obtain ⟨c1, h1⟩ := ownsRow_blk (h.pcs k y e).1 e1
  obtain ⟨c2, h2⟩ := owns_blkF h.own f
  exact ty_ne h2 h1 (by decide)
theorem flcs_one' (l : List FlV) : ∀ u ∈ flcs l, u.oneCell' = true := fun u hu => by
  unfold flcs at hu
  obtain ⟨x, _, hx⟩ := List.mem_flatMap.1 hu
  simp [FlV.cells] at hx
  rcases hx with rfl | rfl <;> rfl
set_option maxHeartbeats 64000000 in
set_option maxRecDepth 100000 in
theorem gets21_any {Tab : World → Prop} (S : HeadSpec Tab) (ad : Option Addr) (n c : Nat) (bs : List Nat) (w : World) (hT : Tab w) (h : Row8 w ad n c (nums bs)) (hd : Rc.Dig bs) (hc : n ≤ c) (hn : n ≤ 140737488351232) : Calls Tryd.prog 7 #[.slice ad n c] w fun e w' => e = .returned (.bool true) ∧ Chg (fun _ => False) w w' := by
  obtain ⟨iu, hiu, hu0, hu1, hu2⟩ := info_parts info5u
  obtain ⟨jf, hjf, hf0, hf1, hf2⟩ := info_parts infoFl
  have HB : Hid (Row8 w ad n c (nums bs) ∧ Rc.Dig bs ∧ n ≤ c ∧ n ≤ 140737488351232) := ⟨h, hd, hc, hn⟩
  have HT : Hid (Tab w) := hT
  have HRM : Hid _ := room21_any ad n c bs w h (by omega)
  have hni : (n : Int) ≤ 140737488351232 := by omega
  clear h hd hc hn hT
  go_enter Tryd.func7, Tryd.ntmps7
  go_wp2_with fail
  refine Calls.mono HRM.out ?_
  rintro z w1 ⟨la, lc, rfl, hl1, c1⟩
  have HL1 : Hid (ByO w1 w.heap.size (.slice la (n + 1) lc) (bs ++ [77])) := hl1
  have HC1 : Hid (Chg (fun _ => False) w w1) := c1
  have HLT : Hid (∀ g, (Value.slice la (n + 1) lc).ownBlock = some g → g < w1.heap.size) := fun g e => (hl1.lt g e).2
  have HLR : Hid (∀ ww, Chg (fun _ => False) w1 ww → Row8 ww la n lc (nums bs)) := fun ww hcw => by
    have hbl : bs.length = n := by have h9 := HB.out.1.1; rw [nums_len] at h9; exact h9
    have h9 := row8_take (byO_row (ByO.new HL1.out hcw)).1 (i := n) (by omega)
    rw [List.take_append_of_le_length (by omega), List.take_of_length_le (by omega)] at h9
    exact h9
  have HLC : Hid (n ≤ lc) := by have := (byO_row hl1).2.2; show _ ≤ _; omega
  clear hl1 c1 HRM
  have hle4 := getH_le bs
  have HGP : Hid (∀ ww, Chg (fun _ => False) w1 ww → Calls Tryd.prog 10 #[.slice la n lc] ww fun e w' => ∃ fa fn fc l, e = .returned (.tuple #[hdv (Hd21.getH bs).1.pk (Hd21.getH bs).1.sz (.slice fa fn fc) (Hd21.getH bs).1.by_, .int .i64 (Hd21.getH bs).2]) ∧ Of0 ww.heap.size w' (.slice fa fn fc) l ∧ InjF l ∧ l.length = fn ∧ fn ≤ fc ∧ l.map FlV.f = (Hd21.getH bs).1.fs ∧ Chg (fun _ => False) ww w') := fun ww hcw => S.get la n lc bs ww (S.keep HT.out (chg_then HC1.out hcw)) (HLR.out ww hcw) HB.out.2.1 HLC.out (by have := HB.out.2.2.2; omega)
  have HGR : Hid (∀ ww, Chg (fun _ => False) w ww → Calls Tryd.prog 18 #[.slice ad n c] ww fun e w' => ∃ fa fn fc l, e = .returned (.tuple #[hdv (Hd21.getH bs).1.pk (Hd21.getH bs).1.sz (.slice fa fn fc) (Hd21.getH bs).1.by_, .int .i64 (Hd21.getH bs).2]) ∧ Of0 ww.heap.size w' (.slice fa fn fc) l ∧ l.length = fn ∧ l.map FlV.f = (Hd21.getH bs).1.fs ∧ Chg (fun _ => False) ww w') := fun ww hcw => rget21_any ad n c bs ww (Bk.row8_chg HB.out.1 hcw) HB.out.2.1 HB.out.2.2.1 HB.out.2.2.2
  obtain ⟨hh, E, hhE⟩ : ∃ a b, Hd21.getH bs = (a, b) := ⟨_, _, rfl⟩
  rw [hhE] at HGP HGR hle4
  obtain ⟨pk, sz, fs, by_⟩ := hh
  simp only at HGP HGR hle4
  unfold hdv at HGP HGR
  have eE : (E != E) = false := by simp
  clear hhE
  go_wp2_with fail
  refine Calls.mono (HGP.out w1 (Chg.refl _ _)) ?_
  rintro z w2 ⟨fa, fn, fc, l1, rfl, ho1, hj1, hlen1, hfc1, hm1, c2⟩
  have hfn4 : fn ≤ 4 := by rw [← hlen1, ← List.length_map (f := FlV.f), hm1]; exact hle4
  have hfni : (fn : Int) ≤ 4 := by omega
  have HO1 : Hid (Of0 w1.heap.size w2 (.slice fa fn fc) l1 ∧ InjF l1 ∧ l1.length = fn ∧ fn ≤ fc ∧ l1.map FlV.f = fs) := ⟨ho1, hj1, hlen1, hfc1, hm1⟩
  have HC2 : Hid (Chg (fun _ => False) w1 w2) := c2
  have HR1 : Hid (∀ (k : Nat) (x : FlV) (g : Nat), l1[k]? = some x → (Value.slice x.a x.n x.c).ownBlock = some g → w1.heap.size ≤ g ∧ g < w2.heap.size) := fun k x g e f => (ho1.pcs k x e).1.lt g f
  have HR0 : Hid (∀ g, (Value.slice fa fn fc).ownBlock = some g → w1.heap.size ≤ g ∧ g < w2.heap.size) := fun g f => ho1.own.lt g f
  clear ho1 hj1 hlen1 hfc1 hm1 c2 hle4
  have cA := chg_one w2 (.cells #[.int .i64 pk, .int .i64 sz, .slice fa fn fc, .int .i64 by_] 24)
  have HA : Hid _ := heap_alloc_last w2 (.cells #[.int .i64 pk, .int .i64 sz, .slice fa fn fc, .int .i64 by_] 24)
  have HC3 : Hid (Chg (fun _ => False) w1 (w2.alloc (.cells #[.int .i64 pk, .int .i64 sz, .slice fa fn fc, .int .i64 by_] 24))) := chg_then HC2.out cA
  have HO13 : Hid (Of0 w1.heap.size (w2.alloc (.cells #[.int .i64 pk, .int .i64 sz, .slice fa fn fc, .int .i64 by_] 24)) (.slice fa fn fc) l1) := HO1.out.1.new cA
  have hszA : w2.heap.size < (w2.alloc (.cells #[.int .i64 pk, .int .i64 sz, .slice fa fn fc, .int .i64 by_] 24)).heap.size := by rw [World.size_alloc]; omega
  clear cA
  go_upto_region 3 with fail
  obtain ⟨HP, hHP⟩ : ∃ HP, w2.heap.size = HP := ⟨_, rfl⟩
  rw [hHP] at HA hszA HR1 HR0 ⊢
  have HHP : Hid (w2.heap.size = HP) := hHP
  clear hHP
  generalize w2.alloc (.cells #[.int .i64 pk, .int .i64 sz, .slice fa fn fc, .int .i64 by_] 24) = w3 at *
  go_wp2_with fail
  refine Calls.mono (HGR.out w3 (chg_then HC1.out HC3.out)) ?_
  rintro z w4 ⟨fa2, fn2, fc2, l2, rfl, ho2, hlen2, hm2, c4⟩
  have hfe : fn = fn2 := by
    have h1 := congrArg List.length hm2
    have h2 := congrArg List.length HO1.out.2.2.2.2
    rw [List.length_map] at h1 h2
    rw [hlen2] at h1
    rw [HO1.out.2.2.1] at h2
    omega
  subst hfe
  have cA := chg_one w4 (.cells #[.int .i64 pk, .int .i64 sz, .slice fa2 fn fc2, .int .i64 by_] 24)
  have HA2 : Hid _ := heap_alloc_last w4 (.cells #[.int .i64 pk, .int .i64 sz, .slice fa2 fn fc2, .int .i64 by_] 24)
  have HO2 : Hid (Of0 w3.heap.size (w4.alloc (.cells #[.int .i64 pk, .int .i64 sz, .slice fa2 fn fc2, .int .i64 by_] 24)) (.slice fa2 fn fc2) l2) := ho2.new cA
  have HM2 : Hid (l2.length = fn ∧ l2.map FlV.f = fs) := ⟨hlen2, hm2⟩
  have hz34 : w3.heap.size ≤ w4.heap.size := c4.size
  have HC5 : Hid (Chg (fun _ => False) w1 (w4.alloc (.cells #[.int .i64 pk, .int .i64 sz, .slice fa2 fn fc2, .int .i64 by_] 24))) := chg_then (chg_then HC3.out c4) cA
  have HO15 : Hid (Of0 w1.heap.size (w4.alloc (.cells #[.int .i64 pk, .int .i64 sz, .slice fa2 fn fc2, .int .i64 by_] 24)) (.slice fa fn fc) l1) := HO13.out.new (chg_then c4 cA)
  have HA5 : Hid ((w4.alloc (.cells #[.int .i64 pk, .int .i64 sz, .slice fa2 fn fc2, .int .i64 by_] 24)).heap[HP]? = some (.cells #[.int .i64 pk, .int .i64 sz, .slice fa fn fc, .int .i64 by_] 24 (0, 0))) := blk_keep HA.out (chg_then c4 cA) (fun f => f)
  have hsz5 : w4.heap.size < (w4.alloc (.cells #[.int .i64 pk, .int .i64 sz, .slice fa2 fn fc2, .int .i64 by_] 24)).heap.size := by rw [World.size_alloc]; omega
  clear cA ho2 hlen2 hm2 c4
  go_upto_region 4 with fail
  obtain ⟨WP, hWP⟩ : ∃ WP, w4.heap.size = WP := ⟨_, rfl⟩
  rw [hWP] at HA2 hsz5 hz34 ⊢
  have HWP : Hid (w4.heap.size = WP) := hWP
  clear hWP HA HO13
  generalize w4.alloc (.cells #[.int .i64 pk, .int .i64 sz, .slice fa2 fn fc2, .int .i64 by_] 24) = w5 at *
  obtain ⟨d0, d1, d2, d3⟩ := cells4h HA5.out
  obtain ⟨e0, e1, e2, e3⟩ := cells4h HA2.out
  have HSM : Hid _ := same21_any w5 pk sz by_ fa fa2 fn fc fc2 l1 l2 HO15.out.L HO2.out.L HM2.out.1 (by rw [HO1.out.2.2.2.2, HM2.out.2]) (by omega)
  unfold hdv at HSM
  go_wp2_with fail
  refine Calls.mono HSM.out ?_
  rintro z w6 ⟨rfl, c6⟩
  have HHD : Hid (∀ ww, Chg (fun _ => False) w1 ww → Calls Tryd.prog 19 #[.slice la n lc, .slice ad n c] ww fun e w' => e = .returned (.bool true) ∧ Chg (fun _ => False) ww w') := fun ww hcw => held21_any w.heap.size la ad n lc c bs ww (ByO.new HL1.out hcw) (Bk.row8_chg HB.out.1 (chg_then HC1.out hcw)) (by have := HB.out.2.2.2; omega)
  have HC6 : Hid (Chg (fun _ => False) w1 w6) := chg_then HC5.out c6
  have HC56 : Hid (Chg (fun _ => False) w5 w6) := c6
  clear c6 d0 d1 d2 d3 e0 e1 e2 e3 HSM
  go_wp2_with fail
  refine Calls.mono (HHD.out w6 HC6.out) ?_
  rintro z w7 ⟨rfl, c7⟩
  have HC57 : Hid (Chg (fun _ => False) w5 w7) := chg_then HC56.out c7
  have HC7 : Hid (Chg (fun _ => False) w1 w7) := chg_then HC6.out c7
  clear c7
  go_wp2_with fail
  refine Calls.mono (HGP.out w7 HC7.out) ?_
  rintro z w8 ⟨fa3, fn3, fc3, l3, rfl, ho3, hj3, hlen3, hfc3, hm3, c8⟩
  have hfe : fn = fn3 := by
    have h1 := congrArg List.length hm3
    have h2 := congrArg List.length HO1.out.2.2.2.2
    rw [List.length_map] at h1 h2
    rw [hlen3] at h1
    rw [HO1.out.2.2.1] at h2
    omega
  subst hfe
  have cA := chg_one w8 (.cells #[.int .i64 pk, .int .i64 sz, .slice fa3 fn fc3, .int .i64 by_] 24)
  have HA3 : Hid _ := heap_alloc_last w8 (.cells #[.int .i64 pk, .int .i64 sz, .slice fa3 fn fc3, .int .i64 by_] 24)
  have HO3 : Hid (Of0 w7.heap.size (w8.alloc (.cells #[.int .i64 pk, .int .i64 sz, .slice fa3 fn fc3, .int .i64 by_] 24)) (.slice fa3 fn fc3) l3) := ho3.new cA
  have HM3 : Hid (l3.length = fn ∧ l3.map FlV.f = fs) := ⟨hlen3, hm3⟩
  have hz78 : w7.heap.size ≤ w8.heap.size := c8.size
  have hz57 : w5.heap.size ≤ w7.heap.size := HC57.out.size
  have HC59 : Hid (Chg (fun _ => False) w5 (w8.alloc (.cells #[.int .i64 pk, .int .i64 sz, .slice fa3 fn fc3, .int .i64 by_] 24))) := chg_then (chg_then HC57.out c8) cA
  have hsz9 : w8.heap.size < (w8.alloc (.cells #[.int .i64 pk, .int .i64 sz, .slice fa3 fn fc3, .int .i64 by_] 24)).heap.size := by rw [World.size_alloc]; omega
  clear cA ho3 hj3 hlen3 hfc3 hm3 c8
  go_upto_region 7 with fail
  obtain ⟨GP, hGP⟩ : ∃ GP, w8.heap.size = GP := ⟨_, rfl⟩
  rw [hGP] at HA3 hsz9 hz78 ⊢
  clear hGP
  generalize w8.alloc (.cells #[.int .i64 pk, .int .i64 sz, .slice fa3 fn fc3, .int .i64 by_] 24) = w9 at *
  have HSZ : Hid (HP < w3.heap.size ∧ w3.heap.size ≤ WP ∧ WP < w5.heap.size ∧ w5.heap.size ≤ w7.heap.size ∧ w7.heap.size ≤ GP ∧ GP < w9.heap.size ∧ w1.heap.size ≤ HP) := ⟨hszA, hz34, hsz5, hz57, hz78, hsz9, by rw [← HHP.out]; exact HC2.out.size⟩
  have HC9 : Hid (Chg (fun _ => False) w1 w9) := chg_then HC5.out HC59.out
  have HO19 : Hid (Of0 w1.heap.size w9 (.slice fa fn fc) l1) := HO15.out.new HC59.out
  have HO29 : Hid (Of0 w3.heap.size w9 (.slice fa2 fn fc2) l2) := HO2.out.new HC59.out
  have HA9 : Hid (w9.heap[HP]? = some (.cells #[.int .i64 pk, .int .i64 sz, .slice fa fn fc, .int .i64 by_] 24 (0, 0))) := blk_keep HA5.out HC59.out (fun f => f)
  have HA29 : Hid (w9.heap[WP]? = some (.cells #[.int .i64 pk, .int .i64 sz, .slice fa2 fn fc2, .int .i64 by_] 24 (0, 0))) := blk_keep HA2.out HC59.out (fun f => f)
  obtain ⟨lo, hlo⟩ : ∃ lo, w1.heap.size = lo := ⟨_, rfl⟩
  rw [hlo] at HO19 HR1 HR0 HLT HSZ
  have HLO : Hid (w1.heap.size = lo) := hlo
  clear hszA hz34 hsz5 hz57 hz78 hsz9 HO15 HO2 HA5 HA2 hlo HC59 HC57 HC56 HC5 HC3 HC6 HC7 HGP HGR eE
  go_wp2_with fail
  go_loopw [10] (fun t wr => ∃ (i : Nat) (q : List FlV), t = .int .i64 (i : Int) ∧ Hid (i ≤ fn) ∧ Hid (Of0 lo wr (.slice fa fn fc) q ∧ InjF q ∧ Sls q l1 ∧ Mkd q i) ∧ Hid (Chg (Zr lo HP) w9 wr)) (fun t _ => fn - (intOf t).toNat)
  case atStart => exact ⟨0, l1, rfl, Nat.zero_le _, ⟨HO19.out, HO1.out.2.1, Sls.refl _, fun k x _ hk => by omega⟩, Chg.refl _ _⟩
  case round =>
    obtain ⟨i, q, rfl, HI, HQ, HC⟩ := hrel
    have hi : i ≤ fn := HI.out
    have hii : (i : Int) ≤ 4 := by omega
    have HQL : Hid (q.length = fn) := by show _ = _; rw [HQ.out.2.2.1.1, HO1.out.2.2.1]
    obtain ⟨_, _, h4, _⟩ := cells4h (blk_keep HA9.out HC.out (fun e => by have := e.2; omega))
    by_cases hlt : i < fn
    · have d1 : decide ((i : Int) < (fn : Int)) = true := decide_eq_true (by omega)
      have d1' : decide (i < fn) = true := decide_eq_true hlt
      obtain ⟨x, hx⟩ : ∃ x, q[i]? = some x := ⟨_, List.getElem?_eq_getElem (by rw [HQL.out]; exact hlt)⟩
      obtain ⟨gl, hfa, k0, k1, kf, _⟩ := HQ.out.1.cellsF HQL.out hx
      have HFA : Hid (fa = some ⟨gl, 0, none⟩) := hfa
      have hglz : Zr lo HP gl := HR0.out gl (by rw [hfa]; rfl)
      have HGZ : Hid _ := hglz
      have hrow := HQ.out.1.row hx
      have HX : Hid (q[i]? = some x) := hx
      obtain ⟨xa, hxa⟩ : ∃ a, x.a = a := ⟨_, rfl⟩
      obtain ⟨xn, hxn⟩ : ∃ a, x.n = a := ⟨_, rfl⟩
      obtain ⟨xc, hxc⟩ : ∃ a, x.c = a := ⟨_, rfl⟩
      have HXA : Hid (x.a = xa ∧ x.n = xn ∧ x.c = xc) := ⟨hxa, hxn, hxc⟩
      rw [hxa, hxn, hxc] at k1
      rw [hfa] at h4 ⊢
      have hxni : (xn : Int) ≤ 140737488351232 := by have := hrow.2.2; omega
      obtain ⟨V, hV⟩ : ∃ V, 7 + i = V := ⟨_, rfl⟩
      have hVi : (7 : Int) + (i : Int) = (V : Int) := by omega
      have hVb : (V : Int) ≤ 11 := by omega
      have hVw : IntKind.u8.wrap (V : Int) = (V : Int) := wr8 (by omega) (by omega)
      have HVV : Hid (7 + i = V ∧ V < 256) := ⟨hV, by omega⟩
      have HQ0 : Hid (Of0 lo wr (.slice (some ⟨gl, 0, none⟩) fn fc) q) := by rw [← HFA.out]; exact HQ.out.1
      clear hfa hglz hrow hx hxa hxn hxc hV k0 kf
      go_wp2_with fail
      clear k1 h4
      go_loopw [12] (fun t wq => ∃ (k : Nat) (q' : List FlV) (y : FlV), t = .int .i64 (k : Int) ∧ Hid (k ≤ xn) ∧ Hid (Of0 lo wq (.slice (some ⟨gl, 0, none⟩) fn fc) q' ∧ InjF q' ∧ Sls q' l1 ∧ Mkd q' i ∧ q'[i]? = some y ∧ (y.a = xa ∧ y.n = xn ∧ y.c = xc) ∧ y.bs.take k = List.replicate k V) ∧ Hid (Chg (Zr lo HP) w9 wq)) (fun t _ => xn - (intOf t).toNat)
      case atStart => exact ⟨0, q, x, rfl, Nat.zero_le _, ⟨HQ0.out, HQ.out.2.1, HQ.out.2.2.1, HQ.out.2.2.2, HX.out, HXA.out, by simp⟩, HC.out⟩
      case round =>
        obtain ⟨k, q', y, rfl, HK, HY, HCy⟩ := hrel
        have hk : k ≤ xn := HK.out
        have hki : (k : Int) ≤ 140737488351232 := by omega
        have HYL : Hid (q'.length = fn) := by show _ = _; rw [HY.out.2.2.1.1, HO1.out.2.2.1]
        have hyb := HY.out.1.row HY.out.2.2.2.2.1
        by_cases hkl : k < xn
        · have e1 : decide ((k : Int) < (xn : Int)) = true := decide_eq_true (by omega)
          have e1' : decide (k < xn) = true := decide_eq_true hkl
          have hyn : k < y.n := by rw [HY.out.2.2.2.2.2.1.2.1]; exact hkl
          obtain ⟨gx, hya, y0, yf⟩ := byO_cellF (HY.out.1.pcs i y HY.out.2.2.2.2.1).1 hyb.2.1 hyn
          have hxa : xa = some ⟨gx, 0, none⟩ := by rw [← HY.out.2.2.2.2.2.1.1]; exact hya
          have HXE : Hid (xa = some ⟨gx, 0, none⟩) := hxa
          have hzx : Zr lo HP gx := by
            obtain ⟨u, eu, ea, en, ec⟩ := HY.out.2.2.1.2 i y HY.out.2.2.2.2.1
            exact HR1.out i u gx eu (by rw [ea, hya]; rfl)
          have hset := HY.out.1.setBs HY.out.2.1 HY.out.2.2.2.2.1 hya hyn HVV.out.2
          have hnx := take_set_next (k := k) (v := V) (by rw [hyb.2.1]; exact hyn) HY.out.2.2.2.2.2.2
          have HS : Hid (Of0 lo (wr.setCell ⟨gx, k, none⟩ (.int .u8 (V : Int))) (.slice (some ⟨gl, 0, none⟩) fn fc) (q'.set i { y with bs := y.bs.set k V }) ∧ InjF (q'.set i { y with bs := y.bs.set k V }) ∧ Sls (q'.set i { y with bs := y.bs.set k V }) l1 ∧ Mkd (q'.set i { y with bs := y.bs.set k V }) i ∧ (q'.set i { y with bs := y.bs.set k V })[i]? = some { y with bs := y.bs.set k V } ∧ (({ y with bs := y.bs.set k V } : FlV).a = xa ∧ ({ y with bs := y.bs.set k V } : FlV).n = xn ∧ ({ y with bs := y.bs.set k V } : FlV).c = xc) ∧ ({ y with bs := y.bs.set k V } : FlV).bs.take (k + 1) = List.replicate (k + 1) V) := ⟨hset, HY.out.2.1.set HY.out.2.2.2.2.1 rfl rfl rfl, HY.out.2.2.1.set HY.out.2.2.2.2.1 rfl rfl rfl, HY.out.2.2.2.1.set (Nat.le_refl _), by rw [List.getElem?_set_self (by rw [HYL.out]; exact hlt)], HY.out.2.2.2.2.2.1, hnx⟩
          have HCS : Hid (Chg (Zr lo HP) w9 (wr.setCell ⟨gx, k, none⟩ (.int .u8 (V : Int)))) := HCy.out.setCell (p := ⟨gx, k, none⟩) (.inl hzx) _
          rw [hxa]
          clear hset hnx hya hxa hzx hyb HY
          go_wp2
          go_roundw
          case rel => exact ⟨k + 1, _, _, by go_num, by show _ ≤ _; omega, by rw [← HXE.out]; exact HS.out, HCS.out⟩
          case measure => simp [intOf]; omega
        · have e1 : decide ((k : Int) < (xn : Int)) = false := decide_eq_false (by omega)
          have e1' : decide (k < xn) = false := decide_eq_false hkl
          have hkx : k = xn := by omega
          have hbs : y.bs = List.replicate y.n (7 + i) := by
            have h1 := HY.out.2.2.2.2.2.2
            rw [List.take_of_length_le (by rw [hyb.2.1, HY.out.2.2.2.2.2.1.2.1, hkx]; exact Nat.le_refl _), hkx] at h1
            rw [h1, HY.out.2.2.2.2.2.1.2.1, HVV.out.1]
          obtain ⟨gl2, hgl2, k0, k1, kf, _⟩ := HY.out.1.cellsF HYL.out HY.out.2.2.2.2.1
          simp only [Option.some.injEq, Addr.mk.injEq, and_true] at hgl2
          subst hgl2
          obtain ⟨J, hJ⟩ : ∃ J, 70 + i = J := ⟨_, rfl⟩
          have hJi : (70 : Int) + (i : Int) = (J : Int) := by omega
          have hJb : (J : Int) ≤ 74 := by omega
          have hJw : IntKind.u64.wrap (J : Int) = (J : Int) := by simp [IntKind.wrap, IntKind.signed, IntKind.bits]; omega
          have kf0 := kf (i * 2)
          obtain ⟨_, _, h4, _⟩ := cells4h (blk_keep HA9.out HCy.out (fun e => by have := e.2; omega))
          rw [HFA.out] at h4
          have hset := HY.out.1.setId HY.out.2.2.2.2.1 (v := J) (by omega)
          have HS : Hid (Of0 lo (wr.setCell ⟨gl, i * 2, none⟩ (.int .u64 (J : Int))) (.slice (some ⟨gl, 0, none⟩) fn fc) (q'.set i { y with id := J }) ∧ InjF (q'.set i { y with id := J }) ∧ Sls (q'.set i { y with id := J }) l1 ∧ Mkd (q'.set i { y with id := J }) (i + 1)) := ⟨hset, HY.out.2.1.set HY.out.2.2.2.2.1 rfl rfl rfl, HY.out.2.2.1.set HY.out.2.2.2.2.1 rfl rfl rfl, by rw [← hJ]; exact HY.out.2.2.2.1.next HY.out.2.2.2.2.1 hbs⟩
          have HCS : Hid (Chg (Zr lo HP) w9 (wr.setCell ⟨gl, i * 2, none⟩ (.int .u64 (J : Int)))) := HCy.out.setCell (p := ⟨gl, i * 2, none⟩) (.inl HGZ.out) _
          clear hset hbs hkx hJ hyb HY kf k1
          go_wp2
          go_roundw
          case rel => exact ⟨i + 1, _, by go_num, by show _ ≤ _; omega, HS.out, HCS.out⟩
          case measure => simp [intOf]; omega
    · have d1 : decide ((i : Int) < (fn : Int)) = false := decide_eq_false (by omega)
      have d1' : decide (i < fn) = false := decide_eq_false hlt
      have hif : i = fn := by omega
      have HMK : Hid (Mkd q fn) := by
        have h9 := HQ.out.2.2.2
        rw [hif] at h9
        exact h9
      have HBK : Hid (∀ (k : Nat) (y : FlV) (g : Nat), q[k]? = some y → (Value.slice y.a y.n y.c).ownBlock = some g → Zr lo HP g) := fun k y g e f => by
        obtain ⟨u, eu, ea, en, ec⟩ := HQ.out.2.2.1.2 k y e
        exact HR1.out k u g eu (by rw [ea, en, ec]; exact f)
      have HQ9 : Hid (Of0 lo wr (.slice fa fn fc) q ∧ InjF q) := ⟨HQ.out.1, HQ.out.2.1⟩
      clear hif
      go_wp2_with fail
      clear h4 hlt d1 d1'
      go_loopw [13] (fun t wb => ∃ (j : Nat), t = .int .i64 (j : Int) ∧ Hid (j ≤ fn) ∧ Hid (Of0 lo wb (.slice fa fn fc) q) ∧ Hid (Chg (Zr lo HP) w9 wb)) (fun t _ => fn - (intOf t).toNat)
      case atStart => exact ⟨0, rfl, Nat.zero_le _, HQ9.out.1, HC.out⟩
      case round =>
        obtain ⟨j, rfl, HJ, HB1, HBC⟩ := hrel
        have hj : j ≤ fn := HJ.out
        have hji : (j : Int) ≤ 4 := by omega
        obtain ⟨_, _, h5, _⟩ := cells4h (blk_keep HA9.out HBC.out (fun e => by have := e.2; omega))
        by_cases hjl : j < fn
        · have f1 : decide ((j : Int) < (fn : Int)) = true := decide_eq_true (by omega)
          have f1' : decide (j < fn) = true := decide_eq_true hjl
          obtain ⟨x, hx⟩ : ∃ x, q[j]? = some x := ⟨_, List.getElem?_eq_getElem (by rw [HQL.out]; exact hjl)⟩
          obtain ⟨gl, hfa, k0, k1, kf, _⟩ := HB1.out.cellsF HQL.out hx
          have HFA : Hid (fa = some ⟨gl, 0, none⟩) := hfa
          have hrow := HB1.out.row hx
          have HX : Hid (q[j]? = some x) := hx
          obtain ⟨xa, hxa⟩ : ∃ a, x.a = a := ⟨_, rfl⟩
          obtain ⟨xn, hxn⟩ : ∃ a, x.n = a := ⟨_, rfl⟩
          obtain ⟨xc, hxc⟩ : ∃ a, x.c = a := ⟨_, rfl⟩
          have HXA : Hid (x.a = xa ∧ x.n = xn ∧ x.c = xc) := ⟨hxa, hxn, hxc⟩
          have HXL : Hid (x.bs.length = x.n) := hrow.2.1
          rw [hxa, hxn, hxc] at k1
          rw [hfa] at h5 ⊢
          have hxni : (xn : Int) ≤ 140737488351232 := by have := hrow.2.2; omega
          have HB0 : Hid (Of0 lo wr (.slice (some ⟨gl, 0, none⟩) fn fc) q) := by rw [← HFA.out]; exact HB1.out
          clear hfa hrow hx hxa hxn hxc k0 kf
          go_wp2_with fail
          clear k1 h5
          have HX0 : Hid (xa = x.a ∧ xn = x.n ∧ xc = x.c) := ⟨HXA.out.1.symm, HXA.out.2.1.symm, HXA.out.2.2.symm⟩
          go_loopw [14, 15] (fun v t wq => ∃ (m : Nat) (va : Option Addr) (vc : Nat), Value.slice va (xn + m) vc = v ∧ t = .int .i64 (m : Int) ∧ Hid (m ≤ 64) ∧ Hid (Ap lo w9.heap.size wq (.slice (some ⟨gl, 0, none⟩) fn fc) q x m va vc) ∧ Hid (Chg (Zr lo HP) w9 wq)) (fun _ t _ => 64 - (intOf t).toNat)
          case atStart => exact ⟨0, xa, xc, rfl, rfl, by show _ ≤ _; omega, by rw [HX0.out.1, HX0.out.2.2]; exact Ap.start HB0.out HX.out, HBC.out⟩
          case round =>
            obtain ⟨m, va, vc, rfl, rfl, HM, HAP, HAC⟩ := hrel
            have hm64 : m ≤ 64 := HM.out
            have hmi : (m : Int) ≤ 64 := by omega
            by_cases hml : m < 64
            · have g1 : decide ((m : Int) < 64) = true := decide_eq_true (by omega)
              have g1' : decide (m < 64) = true := decide_eq_true hml
              have cZ := chg_one wr (.cells #[.int .u8 99] 5)
              obtain ⟨XM, hXM⟩ : ∃ a, xn + m = a := ⟨_, rfl⟩
              have HXM : Hid (xn + m = XM) := hXM
              have hXMi : XM ≤ 140737488351296 := by omega
              have hown9 : (wr.alloc (.cells #[.int .u8 99] 5)).ownsRow lo 5 1 (.slice va XM vc) XM ((nums (x.bs ++ List.replicate m 99)).map (Value.int .u8)) := by
                have h1 := ByO.new HAP.out.own cZ
                unfold ByO at h1
                rw [List.length_append, List.length_replicate, HXL.out, HXA.out.2.1, HXM.out] at h1
                exact h1
              have hsrc9 := (row8_litH wr [99] 1 5 rfl #[.int .u8 99] rfl).src
              have hB9 : lo ≤ (wr.alloc (.cells #[.int .u8 99] 5)).heap.size := by
                have h1 := HAC.out.size
                have h2 := HSZ.out
                have h3 := cZ.size
                omega
              have HAP9 : Hid (Ap lo w9.heap.size (wr.alloc (.cells #[.int .u8 99] 5)) (.slice (some ⟨gl, 0, none⟩) fn fc) q x m va vc) := ⟨HAP.out.of.new cZ, ByO.new HAP.out.own cZ, HAP.out.blk⟩
              have HAC9 : Hid (Chg (Zr lo HP) w9 (wr.alloc (.cells #[.int .u8 99] 5))) := HAC.out.alloc _
              clear cZ
              rw [hXM]
              clear hXM
              go_wp2_with (at_builtin; refine wpList_append_keep rfl _ _ 25 rfl lo 5 iu (.int .u8 0) 1 Tryd.underlying25 hiu hu0 hu1 hu2 rfl (.slice va XM vc) XM ((nums (x.bs ++ List.replicate m 99)).map (Value.int .u8)) rfl (some ⟨wr.heap.size, 0, none⟩) 1 1 rfl ((nums [99]).map (Value.int .u8)) ?h1 ?h2 ?h3 ?m1 ?m2 ?m3 ?_)
              case h1 => exact hown9
              case h2 => exact hsrc9
              case h3 => exact oneB [99]
              case m1 => unfold maxLen; omega
              case m2 => omega
              case m3 => exact hB9
              intro v10 w10 ho10 hg10 hm10 hk10
              obtain ⟨va1, vc1, hv10⟩ := form1 ho10
              subst hv10
              have HAP10 : Hid (Ap lo w9.heap.size w10 (.slice (some ⟨gl, 0, none⟩) fn fc) q x (m + 1) va1 vc1) := by
                have e0 : x.n + m = XM := by rw [HXA.out.2.1]; exact HXM.out
                have e1 : x.n + (m + 1) = XM + 1 := by omega
                refine HAP9.out.step HQ9.out.2 HX.out (fun k y g a b => ?_) HAC9.out.size HXL.out ?_ ?_ ?_ ?_
                · have h1 := (HBK.out k y g a b).2
                  have h2 := HSZ.out
                  omega
                · rw [e1, List.replicate_succ', ← List.append_assoc]
                  exact byO_app ho10
                · rw [e0]; exact hg10
                · rw [e0, e1]; exact hm10
                · rw [e0]
                  show World.ownsRow _ _ _ _ _ _ _
                  rw [List.length_append, List.length_replicate, HXL.out, e0]
                  exact hk10
              have HAC10 : Hid (Chg (Zr lo HP) w9 w10) := HAC9.out.grown hg10 (fun g e => by
                rcases byO_ad HAP9.out.own with ⟨rfl, _⟩ | ⟨g2, rfl⟩
                · simp [Value.ownBlock] at e
                · simp only [Value.ownBlock, Option.some.injEq] at e
                  subst e
                  rcases HAP9.out.blk g2 rfl with ⟨a, b⟩ | a
                  · exact .inl (HBK.out j x g2 HX.out (by rw [a]; rfl))
                  · exact .inr a)
              clear ho10 hg10 hm10 hk10 hown9 hsrc9 hB9
              go_wp2
              go_roundw
              case rel => exact ⟨m + 1, va1, vc1, by rw [← HXM.out, Nat.add_assoc], by go_num, by show _ ≤ _; omega, HAP10.out, HAC10.out⟩
              case measure => simp [intOf]; omega
            · have g1 : decide ((m : Int) < 64) = false := decide_eq_false (by omega)
              have g1' : decide (m < 64) = false := decide_eq_false hml
              obtain ⟨_, _, h6, _⟩ := cells4h (blk_keep HA9.out HAC.out (fun e => by have := e.2; omega))
              obtain ⟨gl2, hgl2, k0, k1, kf, _⟩ := HAP.out.of.cellsF HQL.out HX.out
              simp only [Option.some.injEq, Addr.mk.injEq, and_true] at hgl2
              subst hgl2
              rw [HXA.out.1, HXA.out.2.1, HXA.out.2.2] at k1
              rw [HFA.out] at h6
              obtain ⟨XM, hXM⟩ : ∃ a, xn + m = a := ⟨_, rfl⟩
              have hXMi : (xn : Int) + 64 = (XM : Int) := by omega
              have hXMb : (XM : Int) ≤ 140737488351296 := by omega
              have eX : ((XM : Int) != (XM : Int)) = false := by simp
              rw [hXM]
              clear hXM kf k0
              go_wp2
              go_roundw
              case rel => exact ⟨j + 1, by go_num, by show _ ≤ _; omega, HAP.out.of, HAC.out⟩
              case measure => simp [intOf]; omega
        · have f1 : decide ((j : Int) < (fn : Int)) = false := decide_eq_false (by omega)
          have f1' : decide (j < fn) = false := decide_eq_false hjl
          have cZ := chg_one wr (.cells #[.int .u64 98, .slice none 0 0] 54)
          have hown9 : (wr.alloc (.cells #[.int .u64 98, .slice none 0 0] 54)).ownsRow lo 54 2 (.slice fa fn fc) fn (flcs q) := by
            have h1 := owns_newF HB1.out.own cZ
            rw [HQL.out] at h1
            exact h1
          have hsrc9 : From (wr.alloc (.cells #[.int .u64 98, .slice none 0 0] 54)) (some ⟨wr.heap.size, 0, none⟩) 1 1 2 (flcs [(⟨98, none, 0, 0, []⟩ : FlV)]) := from_fl wr ⟨98, none, 0, 0, []⟩ 54
          have hB9 : lo ≤ (wr.alloc (.cells #[.int .u64 98, .slice none 0 0] 54)).heap.size := by
            have h1 := HBC.out.size
            have h2 := HSZ.out
            have h3 := cZ.size
            omega
          have HBC9 : Hid (Chg (Zr lo HP) w9 (wr.alloc (.cells #[.int .u64 98, .slice none 0 0] 54))) := HBC.out.alloc _
          have HB19 : Hid (Of0 lo (wr.alloc (.cells #[.int .u64 98, .slice none 0 0] 54)) (.slice fa fn fc) q) := HB1.out.new cZ
          clear cZ
          go_wp2_with (at_builtin; refine wpList_append_keepS rfl _ _ 22 rfl lo 54 jf (.agg #[.int .u64 0, .slice none 0 0]) 2 32 Tryd.underlying22 hjf hf0 hf1 hf2 rfl (by decide) _ fn (flcs q) rfl (some ⟨wr.heap.size, 0, none⟩) 1 1 rfl (flcs [(⟨98, none, 0, 0, []⟩ : FlV)]) ?h1 ?h2 ?h3 ?m1 ?m2 ?m3 ?_)
          case h1 => exact hown9
          case h2 => exact hsrc9
          case h3 => exact flcs_one' _
          case m1 => unfold maxLen; omega
          case m2 => omega
          case m3 => exact hB9
          intro v10 w10 ho10 hg10 hm10 hk10
          obtain ⟨ma, mc, hv10⟩ := formF ho10
          subst hv10
          have hC10 : Chg (fun g => (Value.slice fa fn fc).ownBlock = some g) (wr.alloc (.cells #[.int .u64 98, .slice none 0 0] 54)) w10 := (Chg.refl _ _).grown hg10 (fun g e => .inl e)
          have HC10 : Hid (Chg (Zr lo HP) w9 w10) := HBC9.out.grown hg10 (fun g e => .inl (HR0.out g e))
          have HB10 : Hid (Of0 lo w10 (.slice fa fn fc) q) := HB19.out.more HQL.out hg10 hk10
          have HMO : Hid (w10.ownsRow lo 54 2 (.slice ma (fn + 1) mc) (fn + 1) (flcs q ++ flcs [(⟨98, none, 0, 0, []⟩ : FlV)])) := ho10
          clear ho10 hg10 hm10 hk10 hC10 hown9 hsrc9 hB9 h5
          obtain ⟨N1, hN1⟩ : ∃ N1, fn + 1 = N1 := ⟨_, rfl⟩
          have hN1i : (N1 : Int) = (fn : Int) + 1 := by omega
          rw [hN1] at HMO ⊢
          have HMC : Hid (∀ (k : Nat) (y : FlV), q[k]? = some y → ∃ mg, ma = some ⟨mg, 0, none⟩ ∧ w10.cell? ⟨mg, k * 2, none⟩ = some (.int .u64 (y.id : Int))) := fun k y e => by
            obtain ⟨mg, mc', e1, _, _, _⟩ := owns_someF HMO.out (by omega)
            simp only [Value.slice.injEq] at e1
            obtain ⟨rfl, _, rfl⟩ := e1
            have hkl := (List.getElem?_eq_some_iff.1 e).1
            have hfl := flcs_len q
            have h0 := (flcs_at q k y e).1
            refine ⟨mg, rfl, ?_⟩
            rw [HMO.out.cellAt (k * 2) (by rw [HQL.out] at hkl; omega), List.getElem?_append_left (by rw [hfl]; omega)]
            exact h0
          clear hN1
          go_wp2_with fail
          go_loopw [17] (fun t wx => ∃ (r : Nat), t = .int .i64 (r : Int) ∧ Hid (r ≤ fn) ∧ w10 = wx) (fun t _ => fn - (intOf t).toNat)
          case atStart => exact ⟨0, rfl, Nat.zero_le _, rfl⟩
          case round =>
            obtain ⟨r, rfl, HR, rfl⟩ := hrel
            have hr : r ≤ fn := HR.out
            have hri : (r : Int) ≤ 4 := by omega
            obtain ⟨_, _, h6, _⟩ := cells4h (blk_keep HA9.out HC10.out (fun e => by have := e.2; omega))
            by_cases hrl : r < fn
            · have g1 : decide ((r : Int) < (fn : Int)) = true := decide_eq_true (by omega)
              have g1' : decide (r < fn) = true := decide_eq_true hrl
              obtain ⟨x, hx⟩ : ∃ x, q[r]? = some x := ⟨_, List.getElem?_eq_getElem (by rw [HQL.out]; exact hrl)⟩
              obtain ⟨gl, hfa, k0, k1, kf, _⟩ := HB10.out.cellsF HQL.out hx
              obtain ⟨mg, hma, m0⟩ := HMC.out r x hx
              have hmk := HMK.out r x hx hrl
              have hrow := HB10.out.row hx
              obtain ⟨J, hJ⟩ : ∃ J, 70 + r = J := ⟨_, rfl⟩
              have hJi : (70 : Int) + (r : Int) = (J : Int) := by omega
              have hJb : (J : Int) ≤ 74 := by omega
              have hJw : IntKind.u64.wrap (J : Int) = (J : Int) := by simp [IntKind.wrap, IntKind.signed, IntKind.bits]; omega
              have eJ : ((J : Int) != (J : Int)) = false := by simp
              obtain ⟨V, hV⟩ : ∃ V, 7 + r = V := ⟨_, rfl⟩
              have hVi : (7 : Int) + (r : Int) = (V : Int) := by omega
              have hVb : (V : Int) ≤ 11 := by omega
              have hVw : IntKind.u8.wrap (V : Int) = (V : Int) := wr8 (by omega) (by omega)
              have eV : ((V : Int) != (V : Int)) = false := by simp
              have hby := (HB10.out.pcs r x hx).1
              rw [hmk.2, hV] at hby
              rw [hmk.1, hJ] at k0 m0
              obtain ⟨xa, hxa⟩ : ∃ a, x.a = a := ⟨_, rfl⟩
              obtain ⟨xn, hxn⟩ : ∃ a, x.n = a := ⟨_, rfl⟩
              obtain ⟨xc, hxc⟩ : ∃ a, x.c = a := ⟨_, rfl⟩
              rw [hxa, hxn, hxc] at k1 hby
              have hxni : (xn : Int) ≤ 140737488351232 := by have := hrow.2.2; omega
              have HBY : Hid (ByO w10 lo (.slice xa xn xc) (List.replicate xn V)) := hby
              rw [hfa] at h6 ⊢
              rw [hma]
              clear hfa hma hmk hrow hx hxa hxn hxc hby hJ hV kf
              go_wp2_with fail
              go_loopw [19] (fun t wx => ∃ (k : Nat), t = .int .i64 (k : Int) ∧ Hid (k ≤ xn) ∧ w10 = wx) (fun t _ => xn - (intOf t).toNat)
              case atStart => exact ⟨0, rfl, Nat.zero_le _, rfl⟩
              case round =>
                obtain ⟨k, rfl, HK, rfl⟩ := hrel
                have hk : k ≤ xn := HK.out
                have hki : (k : Int) ≤ 140737488351232 := by omega
                by_cases hkl : k < xn
                · have e1 : decide ((k : Int) < (xn : Int)) = true := decide_eq_true (by omega)
                  have e1' : decide (k < xn) = true := decide_eq_true hkl
                  obtain ⟨gx, hxa, y0, yf⟩ := byO_cellF HBY.out (by simp) hkl
                  have hgd : (List.replicate xn V).getD k 0 = V := by
                    rw [List.getD_eq_getElem?_getD, List.getElem?_replicate, if_pos hkl]; rfl
                  rw [hgd] at y0
                  rw [hxa]
                  clear hgd hxa yf h6 k0 k1 m0
                  go_wp2
                  go_roundw
                  case rel => exact ⟨k + 1, by go_num, by show _ ≤ _; omega, by first | trivial | rfl⟩
                  case measure => simp [intOf]; omega
                · have e1 : decide ((k : Int) < (xn : Int)) = false := decide_eq_false (by omega)
                  have e1' : decide (k < xn) = false := decide_eq_false hkl
                  clear k1
                  go_wp2
                  go_roundw
                  case rel => exact ⟨r + 1, by go_num, by show _ ≤ _; omega, by first | trivial | rfl⟩
                  case measure => simp [intOf]; omega
            · have g1 : decide ((r : Int) < (fn : Int)) = false := decide_eq_false (by omega)
              have g1' : decide (r < fn) = false := decide_eq_false hrl
              have HZ : Hid (∀ g, Zr lo HP g → g < HP ∧ lo ≤ g) := fun g e => ⟨e.2, e.1⟩
              obtain ⟨d0, d1, d2, d3⟩ := cells4h (blk_keep HA3.out HC10.out (fun e => by have h1 := e.2; have h2 := HSZ.out; omega))
              obtain ⟨e0, e1, e2, e3⟩ := cells4h (blk_keep HA29.out HC10.out (fun e => by have h1 := e.2; have h2 := HSZ.out; omega))
              have HSM : Hid _ := same21_any w10 pk sz by_ fa3 fa2 fn fc3 fc2 l3 l2 (HO3.out.keepB HC10.out (fun g e => by have h1 := e.2; have h2 := HSZ.out; omega)).L (HO29.out.keepB HC10.out (fun g e => by have h1 := e.2; have h2 := HSZ.out; omega)).L HM2.out.1 (by rw [HM3.out.2, HM2.out.2]) (by omega)
              unfold hdv at HSM
              have HX10 : Hid (Chg (fun _ => False) w1 w10) := HC9.out.trans HC10.out (fun g e => .inr (by rw [HLO.out]; exact e.1))
              clear hr hri
              go_wp2_with fail
              refine Calls.mono HSM.out ?_
              rintro z w11 ⟨rfl, c11⟩
              have HX11 : Hid (Chg (fun _ => False) w1 w11) := chg_then HX10.out c11
              clear c11 d0 d1 d2 d3 e0 e1 e2 e3
              go_wp2_with fail
              refine Calls.mono (HHD.out w11 HX11.out) ?_
              rintro z w12 ⟨rfl, c12⟩
              have HX12 : Hid (Chg (fun _ => False) w1 w12) := chg_then HX11.out c12
              clear c12
              go_wp2_with fail
              refine Calls.mono (fixed21_any S w12 (S.keep HT.out (chg_then HC1.out HX12.out))) ?_
              rintro z w13 ⟨rfl, c13⟩
              have HX13 : Hid (Chg (fun _ => False) w w13) := chg_then (chg_then HC1.out HX12.out) c13
              clear c13
              go_wp2
              go_ret
              exact ⟨rfl, HX13.out⟩
end Go.Proofs.YtkncbanodpfccaaDoor
