/- What the flags say is there, read from the room; of no statement by itself. -/
import Derived.Test.YtkncbanodpfccaaDoorHed
import Derived.Test.YtkncbanodpfccaaDoorHdm
import Derived.Test.YtkncbanodpfccaaDoorHdq
namespace Go.Proofs.YtkncbanodpfccaaDoor
open Go.RowKit
open St12
set_option linter.unusedVariables false
set_option linter.unusedSimpArgs false
/-- The error that the room has, 0: none (but the chain's own). -/
noncomputable def hE (fl : Nat) (R : List Nat) : Int := if stE fl R ≠ 0 then 2 else if (GA fl R).2.2 ≠ 0 then (GA fl R).2.2 else if ∃ x ∈ (GA fl R).2.1, x ≠ 0 then 4 else 0
theorem and64 {fl : Nat} (h : fl < 256) : bits .and .u8 (fl : Int) 64 = if fl / 64 % 2 = 1 then 64 else 0 := by
  have key : ∀ k : Fin 256, bits .and .u8 ((k.val : Nat) : Int) 64 = if k.val / 64 % 2 = 1 then 64 else 0 := by decide +kernel
  exact key ⟨fl, h⟩
theorem and128 {fl : Nat} (h : fl < 256) : bits .and .u8 (fl : Int) 128 = if fl / 128 = 1 then 128 else 0 := by
  have key : ∀ k : Fin 256, bits .and .u8 ((k.val : Nat) : Int) 128 = if k.val / 128 = 1 then 128 else 0 := by decide +kernel
  exact key ⟨fl, h⟩
theorem and3 {fl : Nat} (h : fl < 256) : bits .and .u8 (fl : Int) 3 = ((fl % 4 : Nat) : Int) := by
  have key : ∀ k : Fin 256, bits .and .u8 ((k.val : Nat) : Int) 3 = ((k.val % 4 : Nat) : Int) := by decide +kernel
  exact key ⟨fl, h⟩
theorem and60 {fl : Nat} (h : fl < 256) : (bits .and .u8 (fl : Int) 60 = 0) ↔ fl / 4 % 16 = 0 := by
  have key : ∀ k : Fin 256, (bits .and .u8 ((k.val : Nat) : Int) 60 = 0) ↔ k.val / 4 % 16 = 0 := by decide +kernel
  exact key ⟨fl, h⟩
theorem InjF.nil : InjF [] := fun i j x y g h => by simp at h
theorem InjF.push {B s : Nat} {w : World} {lv : Value} {q : List FlV} {x : FlV} (h : InjF q) (ho : Of0 B w lv q) (hs : w.heap.size ≤ s) (hx : ∀ g, (Value.slice x.a x.n x.c).ownBlock = some g → s ≤ g) : InjF (q ++ [x]) := by
  have at_ : ∀ (k : Nat) (y : FlV), (q ++ [x])[k]? = some y → (k < q.length ∧ q[k]? = some y) ∨ (k = q.length ∧ y = x) := fun k y e => by
    by_cases hk : k < q.length
    · rw [List.getElem?_append_left hk] at e
      exact .inl ⟨hk, e⟩
    · have h1 := (List.getElem?_eq_some_iff.1 e).1
      simp at h1
      obtain rfl : k = q.length := by omega
      simp at e
      exact .inr ⟨rfl, e.symm⟩
  have lt : ∀ (k : Nat) (y : FlV) (g : Nat), q[k]? = some y → (Value.slice y.a y.n y.c).ownBlock = some g → g < w.heap.size := fun k y g e e2 => ((ho.pcs k y e).1.lt g e2).2
  intro i j u v g hi hj hu hv
  rcases at_ i u hi with ⟨h1, h2⟩ | ⟨h1, rfl⟩ <;> rcases at_ j v hj with ⟨k1, k2⟩ | ⟨k1, rfl⟩
  · exact h i j u v g h2 k2 hu hv
  · have := lt i u g h2 hu
    have := hx g hv
    omega
  · have := lt j v g k2 hv
    have := hx g hu
    omega
  · omega
theorem Of0.low {B B' : Nat} {w : World} {lv : Value} {q : List FlV} (h : Of0 B w lv q) (hb : B' ≤ B) : Of0 B' w lv q := ⟨owns_base h.own hb, fun k x e => ⟨owns_base (h.pcs k x e).1 hb, (h.pcs k x e).2⟩⟩
/-- The room's reader, its box, the result, the header that is made. -/
structure HdC (B a g N : Nat) (R : List Nat) (w0 : World) (off : Nat) (p1 s1 : Int) (lv : Value) (w : World) : Prop where
  rd : Wire.Rd B w a g (nums R) off
  bx : w.heap[N]? = some (.cells #[.pointer (some ⟨a, 0, none⟩)] 63 (0, 0))
  rs : w.heap[N + 1]? = some (.cells #[.int .i64 0, .int .i64 0, .slice none 0 0, .int .i64 0] 24 (0, 0))
  hh : w.heap[N + 1 + 1]? = some (.cells #[.int .i64 p1, .int .i64 s1, lv, .int .i64 0] 24 (0, 0))
  ch : Chg (fun z => z = a) w0 w
  sz : N + 1 + 1 + 1 ≤ w.heap.size
  lo : a < N ∧ g < N ∧ w0.heap.size = N
theorem HdC.go {B a g N : Nat} {R : List Nat} {w0 w w' : World} {off off' : Nat} {p1 s1 : Int} {lv : Value} (h : HdC B a g N R w0 off p1 s1 lv w) (hr : Wire.Rd B w' a g (nums R) off') (hc : Chg (fun z => z = a) w w') : HdC B a g N R w0 off' p1 s1 lv w' :=
  ⟨hr, blk_keep h.bx hc (by have := h.lo; omega), blk_keep h.rs hc (by have := h.lo; omega), blk_keep h.hh hc (by have := h.lo; omega), h.ch.trans hc (fun _ e => .inl e), Nat.le_trans h.sz hc.size, h.lo⟩
structure HdE (N a : Nat) (p1 s1 : Int) (lv : Value) (w w' : World) : Prop where
  rs : w'.heap[N + 1]? = some (.cells #[.int .i64 0, .int .i64 0, .slice none 0 0, .int .i64 0] 24 (0, 0))
  hh : w'.heap[N + 1 + 1]? = some (.cells #[.int .i64 p1, .int .i64 s1, lv, .int .i64 0] 24 (0, 0))
  ch : Chg (fun z => z = a) w w'
theorem HdC.go2 {B a g N : Nat} {R : List Nat} {w0 w w' : World} {off : Nat} {p1 s1 : Int} {lv : Value} (h : HdC B a g N R w0 off p1 s1 lv w) (hc : Chg (fun z => z = a) w w') : HdE N a p1 s1 lv w w' := ⟨blk_keep h.rs hc (by have := h.lo; omega), blk_keep h.hh hc (by have := h.lo; omega), hc⟩
theorem HdC.own {B a g N : Nat} {R : List Nat} {w0 w w' : World} {S : Nat → Prop} {off : Nat} {p1 s1 : Int} {lv : Value} (h : HdC B a g N R w0 off p1 s1 lv w) (hc : Chg S w w') (hS : ∀ k, S k → N + 1 + 1 + 1 ≤ k) : HdC B a g N R w0 off p1 s1 lv w' :=
  have hn : ∀ k, k < N + 1 + 1 + 1 → ¬ S k := fun k hk e => by have := hS k e; omega
  ⟨h.rd.keep hc (hn _ (by have := h.lo; omega)) (hn _ (by have := h.lo; omega)), blk_keep h.bx hc (hn _ (by omega)), blk_keep h.rs hc (hn _ (by omega)), blk_keep h.hh hc (hn _ (by omega)), h.ch.trans hc (fun k e => .inr (by have := hS k e; have := h.lo; omega)), Nat.le_trans h.sz hc.size, h.lo⟩
theorem HdC.set {B a g N : Nat} {R : List Nat} {w0 w : World} {off : Nat} {p1 s1 p2 s2 : Int} {lv lv2 : Value} (h : HdC B a g N R w0 off p1 s1 lv w) (k : Nat) (u : Value) (hu : ([.int .i64 p1, .int .i64 s1, lv, .int .i64 0] : List Value).set k u = [.int .i64 p2, .int .i64 s2, lv2, .int .i64 0]) : HdC B a g N R w0 off p2 s2 lv2 (w.setCell ⟨N + 1 + 1, k, none⟩ u) ∧ Chg (fun z => z = N + 1 + 1) w (w.setCell ⟨N + 1 + 1, k, none⟩ u) := by
  have hc : Chg (fun z => z = N + 1 + 1) w (w.setCell ⟨N + 1 + 1, k, none⟩ u) := (Chg.refl (fun z => z = N + 1 + 1) w).setCell (p := ⟨N + 1 + 1, k, none⟩) (.inl rfl) _
  have hb := blk_setkH (l := [.int .i64 p1, .int .i64 s1, lv, .int .i64 0]) h.hh k u
  rw [hu] at hb
  have hl := h.lo
  exact ⟨⟨h.rd.keep hc (by omega) (by omega), blk_keep h.bx hc (by omega), blk_keep h.rs hc (by omega), hb, h.ch.trans hc (fun z e => .inr (by omega)), Nat.le_trans h.sz hc.size, hl⟩, hc⟩
theorem hdC_made (B a g : Nat) (R : List Nat) (w0 : World) (h : Wire.Rd B w0 a g (nums R) 0) : HdC B a g w0.heap.size R w0 0 (-1) (-1) (.slice none 0 0) (((w0.alloc (.cells #[.pointer (some ⟨a, 0, none⟩)] 63)).alloc (.cells #[.int .i64 0, .int .i64 0, .slice none 0 0, .int .i64 0] 24)).alloc (.cells #[.int .i64 (-1), .int .i64 (-1), .slice none 0 0, .int .i64 0] 24)) := by
  have b1 := heap_alloc_last w0 (.cells #[.pointer (some ⟨a, 0, none⟩)] 63)
  have b2 := heap_alloc_last (w0.alloc (.cells #[.pointer (some ⟨a, 0, none⟩)] 63)) (.cells #[.int .i64 0, .int .i64 0, .slice none 0 0, .int .i64 0] 24)
  have b3 := heap_alloc_last ((w0.alloc (.cells #[.pointer (some ⟨a, 0, none⟩)] 63)).alloc (.cells #[.int .i64 0, .int .i64 0, .slice none 0 0, .int .i64 0] 24)) (.cells #[.int .i64 (-1), .int .i64 (-1), .slice none 0 0, .int .i64 0] 24)
  rw [World.size_alloc] at b2
  rw [World.size_alloc, World.size_alloc] at b3
  have k1 := chg_one (w0.alloc (.cells #[.pointer (some ⟨a, 0, none⟩)] 63)) (.cells #[.int .i64 0, .int .i64 0, .slice none 0 0, .int .i64 0] 24)
  have k2 := chg_one ((w0.alloc (.cells #[.pointer (some ⟨a, 0, none⟩)] 63)).alloc (.cells #[.int .i64 0, .int .i64 0, .slice none 0 0, .int .i64 0] 24)) (.cells #[.int .i64 (-1), .int .i64 (-1), .slice none 0 0, .int .i64 0] 24)
  exact ⟨rd_alloc (rd_alloc (rd_alloc h _) _) _, blk_keep b1 (chg_then k1 k2) (fun f => f), blk_keep b2 k2 (fun f => f), b3, (chg_then (chg_then (chg_one w0 _) k1) k2).mono (fun _ f => f.elim), by rw [World.size_alloc, World.size_alloc, World.size_alloc]; omega, h.lt.1, h.lt.2, rfl⟩
/-- The state inside the region that reads a filter and puts it to the others. -/
def HdJ (B a g N : Nat) (R : List Nat) (w0 : World) (off n : Nat) (p1 s1 : Int) (la : Option Addr) (i lc : Nat) (q : List FlV) (id : Nat) (ps : List Nat) (pn : Nat) (e' : Int) (k : Nat) (u27 u28 u29 : Value) (w : World) : Prop :=
  HdC B a g N R w0 (if k = 0 then off else off + n) p1 s1 (.slice la i lc) w ∧
  (1 ≤ k → e' = 0) ∧
  (k ≤ 2 → Of0 (N + 1 + 1 + 1) w (.slice la i lc) q) ∧
  (k = 1 → ∃ pa pc, u27 = .agg #[.int .u64 (id : Int), .slice pa pn pc] ∧ ByO w (N + 1 + 1 + 1) (.slice pa pn pc) ps ∧ InjF (q ++ [⟨id, pa, pn, pc, ps⟩])) ∧
  (k = 2 → ∃ pa pc bb, u28 = .slice (some ⟨bb, 0, none⟩) 1 1 ∧ ByO w (N + 1 + 1 + 1) (.slice pa pn pc) ps ∧ InjF (q ++ [⟨id, pa, pn, pc, ps⟩]) ∧ From w (some ⟨bb, 0, none⟩) 1 1 2 (flcs [⟨id, pa, pn, pc, ps⟩])) ∧
  (k = 3 → ∃ pa pc a9 d9, u29 = .slice a9 (i + 1) d9 ∧ Of0 (N + 1 + 1 + 1) w (.slice a9 (i + 1) d9) (q ++ [⟨id, pa, pn, pc, ps⟩]) ∧ InjF (q ++ [⟨id, pa, pn, pc, ps⟩]))
set_option maxHeartbeats 16000000 in
set_option maxRecDepth 100000 in
theorem head21_any (B a g : Nat) (R : List Nat) (fl : Nat) (hf : fl < 256) (w0 : World) (C : ChainSpec Vint.Tab) (hT : Vint.Tab w0) (h : Wire.Rd B w0 a g (nums R) 0) (hd : Rc.Dig R) (hR : R.length ≤ 1024) : Calls Tryd.prog 28 #[rmv a, .int .u8 (fl : Int)] w0 fun e w' => ((hE fl R ≠ 0 ∧ e = .panicked (gaveH (hE fl R))) ∨ (hE fl R = 0 ∧ ∃ la i lc q, e = .returned (hdv (st1 fl R).1 (st2 fl R).1 (.slice la i lc) 0) ∧ Of0 w0.heap.size w' (.slice la i lc) q ∧ InjF q ∧ q.length = i ∧ i ≤ lc ∧ q.map FlV.f = (GA fl R).1)) ∧ Chg (fun z => z = a) w0 w' := by
  have HM := hdC_made B a g R w0 h
  have HT : Hid (Vint.Tab w0 ∧ a ≠ 0) := ⟨hT, rd_tab h hT⟩
  have HD : Hid (Rc.Dig R) := hd
  have HF : Hid (fl < 256) := hf
  have HR : Hid (R.length ≤ 1024) := hR
  obtain ⟨jf, hjf, hf0, hf1, hf2⟩ := info_parts infoFl
  obtain ⟨N, hN⟩ : ∃ N, w0.heap.size = N := ⟨_, rfl⟩
  have HNN : Hid (w0.heap.size = N) := hN
  rw [hN] at HM
  have HMM : Hid _ := HM
  unfold rmv
  clear h hd hT HM hR
  go_enter Tryd.func28, Tryd.ntmps28
  go_upto_region 2 with fail
  generalize ((w0.alloc (.cells #[.pointer (some ⟨a, 0, none⟩)] 63)).alloc (.cells #[.int .i64 0, .int .i64 0, .slice none 0 0, .int .i64 0] 24)).alloc (.cells #[.int .i64 (-1), .int .i64 (-1), .slice none 0 0, .int .i64 0] 24) = w1 at *
  try rw [hN]
  have e1 := and64 hf
  have e2 := and128 hf
  obtain ⟨b1, hb1⟩ : ∃ b : Int, (if fl / 64 % 2 = 1 then 64 else 0) = b := ⟨_, rfl⟩
  obtain ⟨b2, hb2⟩ : ∃ b : Int, (if fl / 128 = 1 then 128 else 0) = b := ⟨_, rfl⟩
  rw [hb1] at e1
  rw [hb2] at e2
  have HB1 : Hid ((if fl / 64 % 2 = 1 then 64 else 0) = b1) := hb1
  have HB2 : Hid ((if fl / 128 = 1 then 128 else 0) = b2) := hb2
  clear hb1 hb2
  have e3 := and3 hf
  have x2 : w1.cell? ⟨N, 0, none⟩ = some (.pointer (some ⟨a, 0, none⟩)) := cell00 HMM.out.bx
  obtain ⟨y0, y1, _, _⟩ := cells4h HMM.out.hh
  have f0 := free4 HMM.out.hh 0
  clear hN
  go_upto_if 9 with fail
  go_cut [] (fun wx => ∃ (off : Nat) (x1 : Int), Hid (HdC B a g N R w0 off x1 (-1) (.slice none 0 0) wx) ∧ Hid ((st1 fl R).2.2 = 0 ∧ (st1 fl R).1 ≠ 0 ∧ x1 = (st1 fl R).1 ∧ R.drop off = (st1 fl R).2.1))
  case first =>
    by_cases k1 : fl / 64 % 2 = 1
    · have hb := HB1.out
      rw [if_pos k1] at hb
      subst hb
      have HS : Hid (st1 fl R = if (getN (R.drop 0)).2.2 ≠ 0 then ((0 : Int), ([] : List Nat), (2 : Int)) else (((getN (R.drop 0)).1 : Int), (R.drop 0).drop (getN (R.drop 0)).2.1, 0)) := by show _ = _; unfold st1; rw [decide_eq_true k1]; rfl
      have HX : Hid _ := size21_any B a g 0 R 1 w1 HMM.out.rd HD.out
      unfold rmv at HX
      obtain ⟨G, hG⟩ : ∃ G, getN (R.drop 0) = G := ⟨_, rfl⟩
      rw [hG] at HS HX
      clear hG k1 y0 y1 f0 e2 e3
      go_wp2_with fail
      refine Calls.mono HX.out ?_
      rintro z w2 ⟨⟨he, hl, rfl, hr⟩ | ⟨he, rfl⟩, hc⟩
      · have HC2 : Hid _ := HMM.out.go hr hc
        obtain ⟨y0, y1, _, _⟩ := cells4h HC2.out.hh
        have f0 := free4 HC2.out.hh 0
        have HG : Hid (st1 fl R = ((G.1 : Int), R.drop (0 + G.2.1), 0) ∧ 1 ≤ (G.1 : Int)) := ⟨by rw [HS.out, if_neg (by simpa using he), List.drop_drop], hl⟩
        have HC3 : Hid _ := (HC2.out.set (p2 := (G.1 : Int)) (s2 := -1) (lv2 := .slice none 0 0) 0 (.int .i64 (G.1 : Int)) rfl).1
        clear he hl hr hc HX HS x2
        go_wp2_with fail
        go_meet
        exact ⟨0 + G.2.1, (G.1 : Int), HC3.out, by rw [HG.out.1]; exact ⟨rfl, by have := HG.out.2; omega, rfl, rfl⟩⟩
      · have HB : Hid (stE fl R ≠ 0) := by
          show _ ≠ _
          unfold stE
          rw [if_pos]
          · decide
          · rw [HS.out]
            by_cases k2 : G.2.2 = 0
            · rcases he with f | f
              · exact absurd k2 f
              · right; rw [if_neg (by simpa using k2)]; show (G.1 : Int) = 0; omega
            · left; rw [if_pos k2]; decide
        have hee : hE fl R = 2 := by unfold hE; rw [if_pos HB.out]
        exact ⟨rfl, .inl ⟨by rw [hee]; decide, by rw [hee]⟩, HMM.out.ch.trans hc (fun _ e => .inl e)⟩
    · have hb := HB1.out
      rw [if_neg k1] at hb
      subst hb
      have HS : Hid (st1 fl R = (-1, R, 0)) := by show _ = _; unfold st1; rw [decide_eq_false k1]; rfl
      clear k1 y0 y1 f0 e2 e3
      go_wp2_with fail
      go_meet
      exact ⟨0, -1, HMM.out, by rw [HS.out]; exact ⟨rfl, by show (-1 : Int) ≠ 0; decide, rfl, by rw [List.drop_zero]⟩⟩
  case rest =>
  obtain ⟨off, x1, HC1, HS1⟩ := hcut
  clear x2 y0 y1 f0 HMM e1 HB1
  have x2 : wc.cell? ⟨N, 0, none⟩ = some (.pointer (some ⟨a, 0, none⟩)) := cell00 HC1.out.bx
  obtain ⟨y0, y1, _, _⟩ := cells4h HC1.out.hh
  have f0 := free4 HC1.out.hh 1
  go_upto_if 15 with fail
  go_cut [] (fun wx => ∃ (o2 : Nat) (x2 : Int), Hid (HdC B a g N R w0 o2 x1 x2 (.slice none 0 0) wx) ∧ Hid (stE fl R = 0 ∧ x1 = (st1 fl R).1 ∧ x2 = (st2 fl R).1 ∧ R.drop o2 = (st2 fl R).2.1))
  case first =>
    by_cases k1 : fl / 128 = 1
    · have hb := HB2.out
      rw [if_pos k1] at hb
      subst hb
      have HS : Hid (st2 fl R = if (getN (R.drop off)).2.2 ≠ 0 then ((0 : Int), ([] : List Nat), (2 : Int)) else (((getN (R.drop off)).1 : Int), (R.drop off).drop (getN (R.drop off)).2.1, 0)) := by show _ = _; unfold st2; rw [decide_eq_true k1, ← HS1.out.2.2.2]; rfl
      have HX : Hid _ := size21_any B a g off R 0 wc HC1.out.rd HD.out
      unfold rmv at HX
      obtain ⟨G, hG⟩ : ∃ G, getN (R.drop off) = G := ⟨_, rfl⟩
      rw [hG] at HS HX
      clear hG k1 y0 y1 f0 e3
      go_wp2_with fail
      refine Calls.mono HX.out ?_
      rintro z w2 ⟨⟨he, hl, rfl, hr⟩ | ⟨he, rfl⟩, hc⟩
      · have HC2 : Hid _ := HC1.out.go hr hc
        obtain ⟨y0, y1, _, _⟩ := cells4h HC2.out.hh
        have f0 := free4 HC2.out.hh 1
        have HG : Hid (st2 fl R = ((G.1 : Int), R.drop (off + G.2.1), 0)) := by show _ = _; rw [HS.out, if_neg (by simpa using he), List.drop_drop]
        have HC3 : Hid _ := (HC2.out.set (p2 := x1) (s2 := (G.1 : Int)) (lv2 := .slice none 0 0) 1 (.int .i64 (G.1 : Int)) rfl).1
        have HZ : Hid (stE fl R = 0) := by
          show _ = _
          unfold stE
          rw [if_neg (by have := HS1.out; omega), if_neg (by rw [HG.out]; simp)]
        clear he hl hr hc HX HS x2
        go_wp2_with fail
        go_meet
        exact ⟨off + G.2.1, (G.1 : Int), HC3.out, HZ.out, HS1.out.2.2.1, by rw [HG.out], by rw [HG.out]⟩
      · have HB : Hid (stE fl R ≠ 0) := by
          show _ ≠ _
          unfold stE
          split
          · decide
          · rw [if_pos]
            · decide
            · rw [HS.out]
              rcases he with f | f
              · rw [if_pos f]; decide
              · exact absurd f (by omega)
        have hee : hE fl R = 2 := by unfold hE; rw [if_pos HB.out]
        exact ⟨rfl, .inl ⟨by rw [hee]; decide, by rw [hee]⟩, HC1.out.ch.trans hc (fun _ e => .inl e)⟩
    · have hb := HB2.out
      rw [if_neg k1] at hb
      subst hb
      have HS : Hid (st2 fl R = (-1, (st1 fl R).2.1, 0)) := by show _ = _; unfold st2; rw [decide_eq_false k1]; rfl
      have HZ : Hid (stE fl R = 0) := by
        show _ = _
        unfold stE
        rw [if_neg (by have := HS1.out; omega), if_neg (by rw [HS.out]; simp)]
      clear k1 y0 y1 f0 e3
      go_wp2_with fail
      go_meet
      exact ⟨off, -1, HC1.out, HZ.out, HS1.out.2.2.1, by rw [HS.out], by rw [HS.out]; exact HS1.out.2.2.2⟩
  case rest =>
  obtain ⟨o2, s1, HC2, HS2⟩ := hcut
  clear x2 y0 y1 f0 HC1 HS1 e2 HB2
  obtain ⟨p1, hp1⟩ : ∃ p1, x1 = p1 := ⟨_, rfl⟩
  rw [hp1] at HC2 HS2
  clear hp1
  obtain ⟨r4, hr4⟩ : ∃ r, fl % 4 = r := ⟨_, rfl⟩
  have HGA : Hid (GA fl R = Hd21.getAll (r4 + 1) (R.drop o2)) := by show _ = _; rw [HS2.out.2.2.2]; unfold GA; rw [hr4]
  obtain ⟨G, hG⟩ : ∃ G, GA fl R = G := ⟨_, rfl⟩
  have HE : Hid (hE fl R = if G.2.2 ≠ 0 then G.2.2 else if ∃ x ∈ G.2.1, x ≠ 0 then 4 else 0) := by show _ = _; unfold hE; rw [if_neg (by rw [HS2.out.1]; simp), hG]
  have HGG : Hid (GA fl R = G) := hG
  rw [hG] at HGA
  rw [hr4] at e3
  have jr4 : (r4 : Int) ≤ 3 := by omega
  clear hr4 hG hf HF
  go_wp2_with fail
  go_loopw [22] (fun t wr => ∃ (i off : Nat) (la : Option Addr) (lc : Nat) (q : List FlV), t = .int .u8 (i : Int) ∧ Hid (i ≤ r4 + 1) ∧ Hid (HdC B a g N R w0 off p1 s1 (.slice la i lc) wr ∧ Of0 (N + 1 + 1 + 1) wr (.slice la i lc) q ∧ InjF q ∧ q.length = i) ∧ Hid ((Hd21.getAll (r4 + 1 - i) (R.drop off)).2.2 = G.2.2 ∧ (G.2.2 = 0 → q.map FlV.f ++ (Hd21.getAll (r4 + 1 - i) (R.drop off)).1 = G.1 ∧ (Hd21.getAll (r4 + 1 - i) (R.drop off)).2.1 = G.2.1))) (fun t _ => r4 + 1 - (intOf t).toNat)
  case atStart => exact ⟨0, o2, none, 0, [], rfl, Nat.zero_le _, ⟨HC2.out, Of0.nil _ _, InjF.nil, rfl⟩, by rw [HGA.out]; exact ⟨rfl, fun _ => ⟨rfl, rfl⟩⟩⟩
  case round =>
    obtain ⟨i, off, la, lc, q, rfl, HIL, HI0, HGq⟩ := hrel
    have hi5 : i ≤ r4 + 1 := HIL.out
    have hii : (i : Int) ≤ 4 := by omega
    by_cases hlt : i ≤ r4
    · have d5 : decide ((i : Int) < (r4 : Int) + 1) = true := decide_eq_true (by omega)
      have d5' : decide (i < r4 + 1) = true := decide_eq_true (by omega)
      have HI : Hid (HdC B a g N R w0 off p1 s1 (.slice la i lc) wr ∧ Of0 (N + 1 + 1 + 1) wr (.slice la i lc) q) := ⟨HI0.out.1, HI0.out.2.1⟩
      have HIJ : Hid (InjF q) := HI0.out.2.2.1
      have HQL : Hid (q.length = i) := HI0.out.2.2.2
      have HWF : Hid _ := fun (ww : World) (hw : Chg (fun z => z = a) w0 ww) (hr : Wire.Rd B ww a g (nums R) off) => wholeF_any B a g off R ww C (HT.out.1.keep hw (Ne.symm HT.out.2)) hr HD.out
      have hgp := Cn20.get_pos (R.drop off)
      have hgb := fun e => Cn20.get_back (dig_drop HD.out off) e
      have hgd := Cn20.get_dig (dig_drop HD.out off)
      have hst := fun e => getAll_step (n := r4 - i) (bs := R.drop off) e
      have hbd := fun e => getAll_bad (n := r4 - i) (bs := R.drop off) e
      have hlen : (R.drop off).length ≤ 140737488355328 := by have := HI0.out.1.rd.len; rw [nums_len] at this; rw [List.length_drop]; omega
      obtain ⟨fx, n, e', hgf⟩ : ∃ a b c, Cn20.getF (R.drop off) = (a, b, c) := ⟨_, _, _, rfl⟩
      rw [hgf] at HWF hgp hgb hgd hst hbd
      simp only at HWF hgp hgb hgd hst hbd
      obtain ⟨id, ps⟩ := fx
      simp only at HWF hgb hgd
      rw [show r4 + 1 - i = r4 - i + 1 by omega] at HGq
      have HBAD : Hid (e' ≠ 0 → hE fl R ≠ 0 ∧ hE fl R = rtE e') := fun he => by
        have h1 : G.2.2 = rtE e' := by rw [← HGq.out.1, hbd he]; rfl
        have h2 : rtE e' ≠ 0 := by unfold rtE; split <;> omega
        have h3 : hE fl R = G.2.2 := by rw [HE.out, if_pos (by rw [h1]; exact h2)]
        rw [h3, h1]
        exact ⟨h2, rfl⟩
      obtain ⟨pn, hpn⟩ : ∃ pn, ps.length = pn := ⟨_, rfl⟩
      have HPN : Hid (ps.length = pn) := hpn
      have HOK : Hid (e' = 0 → id < 18446744073709551616 ∧ Rc.Dig ps ∧ pn ≤ 140737488351232) := fun he => by
        have h1 := hgb he
        have h2 := hgp.1
        have h3 := HI0.out.1.rd.len
        rw [nums_len] at h3
        rw [List.length_drop] at h2
        exact ⟨by omega, hgd, by have := h1.2.2; have := HR.out; omega⟩
      have HST6 : Hid (e' = 0 → (Hd21.getAll (r4 - i) (R.drop (off + n))).2.2 = G.2.2 ∧ (G.2.2 = 0 → (q.map FlV.f ++ [⟨id, ps⟩]) ++ (Hd21.getAll (r4 - i) (R.drop (off + n))).1 = G.1 ∧ (Hd21.getAll (r4 - i) (R.drop (off + n))).2.1 = G.2.1)) := fun he => by
        have h1 := hst he
        rw [List.drop_drop] at h1
        refine ⟨by rw [← h1.1]; exact HGq.out.1, fun g0 => ?_⟩
        have h2 := h1.2 (by rw [HGq.out.1]; exact g0)
        have h3 := HGq.out.2 g0
        rw [h2.1, h2.2] at h3
        exact ⟨by rw [← h3.1]; simp, h3.2⟩
      have HGN : Hid (r4 + 1 - (i + 1) = r4 - i) := by show _ = _; omega
      clear hgf hst hbd hgp hgb hgd hpn hlen HGq
      go_upto_region 8 with fail
      refine wp_region_phaseQ (mk := fun u => #[_, _, _, _, _, _, _, _, _, _, _, _, _, _, _, _, _, _, _, _, _, _, _, _, u 24, u 25, u 26, u 27, u 28, u 29, u 30, _, _, _, _]) (G := lookG [(24, .pointer (some ⟨N + 1 + 1, 2, none⟩)), (25, .slice la i lc), (26, .agg #[.pointer (some ⟨a, 0, none⟩)]), (30, .pointer (some ⟨N + 1 + 1, 2, none⟩))]) (J := fun qk u ww => HdJ B a g N R w0 off n p1 s1 la i lc q id ps pn e' qk (u 27) (u 28) (u 29) ww) [3, 4, 5] (fun i => if i = 1 then 2 else 3) ([]) (fun slot => match slot with | 24 => u24 | 25 => u25 | 26 => u26 | 27 => u27 | 28 => u28 | 29 => u29 | 30 => u30 | _ => undef) rfl (by kernel_rfl) 7 _ rfl rfl (by kernel_rfl) (by kernel_rfl) (by kernel_rfl) (by decide) ?_ ?_ ?_ (by kernel_rfl) ?_ ?_
      · repeat (refine ⟨fun _ _ => rfl, ?_⟩)
        exact trivial
      · intro qk u u2 ww h hj
        have e27 : u 27 = u2 27 := h 3 (by decide)
        have e28 : u 28 = u2 28 := h 4 (by decide)
        have e29 : u 29 = u2 29 := h 5 (by decide)
        show HdJ _ _ _ _ _ _ _ _ _ _ _ _ _ _ _ _ _ _ _ _ _ _ _
        rw [← e27, ← e28, ← e29]
        exact hj
      · exact ⟨HI.out.1.own (Chg.refl _ wr).drew (fun _ f => f), fun e => absurd e (by omega), fun _ => HI.out.2.new (Chg.refl _ wr).drew, fun e => absurd e (by omega), fun e => absurd e (by omega), fun e => absurd e (by omega)⟩
      · refine ⟨?_, ?_, ?_, ?_, ?_, ?_, ?_, trivial⟩
        · show StepRQ _ _ _ _ _ _ _ _ _ -- 24
          unfold StepRQ
          intro qn hq u w_ hj hd K hK
          clear hd
          go_simp
          exact hK.out (.pointer (some ⟨N + 1 + 1, 2, none⟩)) rfl
        · show StepRQ _ _ _ _ _ _ _ _ _ -- 25
          unfold StepRQ
          intro qn hq u w_ hj hd K hK
          have h24 : u 24 = .pointer (some ⟨N + 1 + 1, 2, none⟩) := hd.get 0 (by kernel_rfl)
          clear hd
          simp only [h24] at hK
          have x0 := (cells4h hj.1.hh).2.2.1
          clear hj
          go_simp
          exact hK.out _ rfl
        · show StepRQ _ _ _ _ _ _ _ _ _ -- 26
          unfold StepRQ
          intro qn hq u w_ hj hd K hK
          clear hd
          have x0 := cell00 hj.1.bx
          clear hj
          go_simp
          exact hK.out _ rfl
        · show StepWQ _ _ _ _ _ _ _ _ _ -- 27
          unfold StepWQ
          intro u w_ hj hd K hK
          have h26 : u 26 = .agg #[.pointer (some ⟨a, 0, none⟩)] := hd.get 2 (by kernel_rfl)
          clear hd
          simp only [h26] at hK
          have HN9 : Hid _ := hj
          clear hj
          go_simp
          go_at_call 50
          refine Calls.mono (HWF.out w_ HN9.out.1.ch HN9.out.1.rd) ?_
          rintro z w2 ⟨⟨he, pv, rfl, hpv, hr2⟩ | ⟨he, rfl⟩, c2⟩
          · obtain ⟨pa, pc, rfl⟩ := byO_form hpv
            rw [HPN.out] at hpv ⊢
            have hof := HN9.out.2.2.1 (by omega)
            have hsz := HN9.out.1.sz
            have hlo := HN9.out.1.lo
            have hinj := HIJ.out.push (x := ⟨id, pa, pn, pc, ps⟩) hof (Nat.le_refl _) (fun g e => (hpv.lt g e).1)
            exact hK.out _ w2 ⟨HN9.out.1.go hr2 c2, fun _ => he, fun _ => hof.keepB c2 (fun k e => by omega), fun _ => ⟨pa, pc, rfl, owns_base hpv hsz, hinj⟩, fun e => absurd e (by omega), fun e => absurd e (by omega)⟩ trivial
          · have h9 := HBAD.out he
            exact ⟨rfl, .inl ⟨h9.1, by rw [h9.2]⟩, HN9.out.1.ch.trans c2 (fun _ e => .inl e)⟩
        · show StepWQ _ _ _ _ _ _ _ _ _ -- 28
          unfold StepWQ
          intro u w_ hj hd K hK
          clear hd
          obtain ⟨h1, hz, h2, h3, _⟩ := hj
          obtain ⟨pa, pc, e27, hby, hinj⟩ := h3 rfl
          have c9 := chg_one w_ (.cells #[.int .u64 (id : Int), .slice pa pn pc] 54)
          have HC9 : Hid _ := h1.own c9 (fun _ f => f.elim)
          have HO9 : Hid _ := (h2 (by omega)).new c9
          have HB9 : Hid _ := ByO.new hby c9
          have HFR : Hid _ := from_fl w_ ⟨id, pa, pn, pc, ps⟩ 54
          have HIN : Hid _ := hinj
          have HZ0 : Hid _ := hz (by omega)
          clear h1 h2 h3 hz c9 hby hinj
          simp only [e27] at hK ⊢
          go_simp
          exact hK.out _ _ ⟨HC9.out, fun _ => HZ0.out, fun _ => HO9.out, fun e => absurd e (by omega), fun _ => ⟨pa, pc, _, rfl, HB9.out, HIN.out, HFR.out⟩, fun e => absurd e (by omega)⟩ trivial
        · show StepWQ _ _ _ _ _ _ _ _ _ -- 29
          unfold StepWQ
          intro u w_ hj hd K hK
          have h25 : u 25 = .slice la i lc := hd.get 1 (by kernel_rfl)
          clear hd
          obtain ⟨h1, hz, h2, _, h4, _⟩ := hj
          have HID : Hid _ := HOK.out (hz (by omega))
          obtain ⟨pa, pc, bb, e28, hby, hinj, hfr⟩ := h4 rfl
          have hof := h2 (by omega)
          have hown : w_.ownsRow (N + 1 + 1 + 1) 54 2 (.slice la i lc) i (flcs q) := by
            have := hof.own
            unfold FlO at this
            rw [HQL.out] at this
            exact this
          refine step_append_moved (a := ⟨_, []⟩) (by rfl) (.tmp 25) (.tmp 28) 22 (by rfl) (N + 1 + 1 + 1) 54 jf (.agg #[.int .u64 0, .slice none 0 0]) 2 32 Tryd.underlying22 hjf hf0 hf1 hf2 rfl (by decide) (.slice la i lc) i (flcs q) (by exact h25) (some ⟨bb, 0, none⟩) 1 1 (by exact e28) (flcs [⟨id, pa, pn, pc, ps⟩]) hown hfr (flcs_cell _) (by unfold maxLen; omega) (by omega) h1.sz ?_
          intro v2 w2 ho2 hg2 hm2
          have hC2 : Chg (fun g => (Value.slice la i lc).ownBlock = some g) w_ w2 := (Chg.refl _ _).grown hg2 (fun g e => .inl e)
          have hO2 : Of0 (N + 1 + 1 + 1) w2 v2 (q ++ [⟨id, pa, pn, pc, ps⟩]) := hof.push (x := ⟨id, pa, pn, pc, ps⟩) ⟨hby, HID.out.1, HID.out.2.1, HID.out.2.2⟩ (by rw [HQL.out]) ho2 hg2
          obtain ⟨a9, d9, hv9⟩ := formF ho2
          subst hv9
          exact hK.out _ w2 ⟨h1.own hC2 (fun k e => (hof.own.lt k e).1), fun _ => hz (by omega), fun e => absurd e (by omega), fun e => absurd e (by omega), fun e => absurd e (by omega), fun _ => ⟨pa, pc, a9, d9, rfl, hO2, hinj⟩⟩ trivial
        · show StepRQ _ _ _ _ _ _ _ _ _ -- 30
          unfold StepRQ
          intro qn hq u w_ hj hd K hK
          clear hd
          go_simp
          exact hK.out (.pointer (some ⟨N + 1 + 1, 2, none⟩)) rfl
      · intro u w7 hj hA K hK
        have e29 : u 29 = u 29 := rfl
        have e30 : u 30 = .pointer (some ⟨N + 1 + 1, 2, none⟩) := hA.at 30 (by kernel_rfl)
        clear hA e29
        obtain ⟨h1, hz, _, _, _, h5⟩ := hj
        obtain ⟨pa, pc, a9, d9, e29, hof, hinj⟩ := h5 rfl
        have hz0 := hz (by decide)
        have hx2 := (cells4h h1.hh).2.2.1
        have hfz := free4 h1.hh 2
        obtain ⟨h6, hc6⟩ := h1.set (p2 := p1) (s2 := s1) (lv2 := .slice a9 (i + 1) d9) 2 (.slice a9 (i + 1) d9) rfl
        have HI6 : Hid (HdC B a g N R w0 (off + n) p1 s1 (.slice a9 (i + 1) d9) (w7.setCell ⟨N + 1 + 1, 2, none⟩ (.slice a9 (i + 1) d9))) := h6
        have HO6 : Hid _ := hof.keepB hc6 (fun k e => by omega)
        have HJ6 : Hid (InjF (q ++ [⟨id, pa, pn, pc, ps⟩])) := hinj
        have HS6 : Hid _ := HST6.out hz0
        simp only [e29, e30] at hK ⊢
        clear e29 e30 h1 hz h5 hof hinj hz0 h6 hc6
        go_simp
        refine hK.out _ _ ?_
        generalize w7.setCell ⟨N + 1 + 1, 2, none⟩ (.slice a9 (i + 1) d9) = w8 at *
        go_wp2
        go_roundw
        case rel => exact ⟨i + 1, off + n, a9, d9, q ++ [⟨id, pa, pn, pc, ps⟩], by go_num, by show _ ≤ _; omega, ⟨HI6.out, HO6.out, HJ6.out, by rw [List.length_append, HQL.out]; rfl⟩, by rw [HGN.out, List.map_append]; exact HS6.out⟩
        case measure => simp [intOf]; omega
    · have d5 : decide ((i : Int) < (r4 : Int) + 1) = false := decide_eq_false (by omega)
      have d5' : decide (i < r4 + 1) = false := decide_eq_false (by omega)
      have him : r4 + 1 - i = 0 := by omega
      have hgq := HGq.out
      rw [him] at hgq
      have hG0 : G.2.2 = 0 := hgq.1.symm
      have HGF : Hid (q.map FlV.f = G.1 ∧ R.drop off = G.2.1) := by
        have h1 := hgq.2 hG0
        refine ⟨by rw [← h1.1]; exact (List.append_nil _).symm, ?_⟩
        rw [← h1.2]
        rfl
      have HE6 : Hid (hE fl R = if ∃ x ∈ R.drop off, x ≠ 0 then 4 else 0) := by
        show _ = _
        rw [HE.out, if_neg (by rw [hG0]; simp), ← HGF.out.2]
      have HX : Hid _ := zeros21_any B a g off R wr HI0.out.1.rd HD.out
      have x2 : wr.cell? ⟨N, 0, none⟩ = some (.pointer (some ⟨a, 0, none⟩)) := cell00 HI0.out.1.bx
      have HI1 : Hid (1 ≤ i) := by show _ ≤ _; omega
      unfold rmv at HX
      clear hgq him hG0 HGq HGA hlt HE
      go_wp2_with fail
      refine Calls.mono HX.out ?_
      rintro z w2 ⟨⟨hz, rfl⟩ | ⟨hz, rfl⟩, hc⟩
      · have HC2 : Hid _ := HI0.out.1.go2 hc
        have HO2 : Hid (Of0 (N + 1 + 1 + 1) w2 (.slice la i lc) q) := HI0.out.2.1.keepB hc (fun k e => by have := HI0.out.1.lo; omega)
        have HE0 : Hid (hE fl R = 0) := by show _ = _; rw [HE6.out, if_neg (by simpa using hz)]
        have HIC : Hid (i ≤ lc) := by
          have h1 := HI0.out.2.1.own
          unfold FlO at h1
          rw [HI0.out.2.2.2] at h1
          obtain ⟨g9, c9, e9, h9, _⟩ := owns_someF h1 HI1.out
          simp only [Value.slice.injEq] at e9
          show i ≤ lc
          omega
        obtain ⟨t0, t1, t2, t3⟩ := cells4h HC2.out.hh
        clear hz hc HX x2
        go_wp2_with (refine wpList_store_row rfl 24 (.tmp 4) _ rfl (N + 1) 24 _ #[.int .i64 p1, .int .i64 s1, .slice la i lc, .int .i64 0] rfl rfl HC2.out.rs infoHd4 rfl (one4 _ _ _ _ _ _) ?_)
        intro wz hbz hcz
        have HCZ : Hid (Chg (fun z => z = a) w0 wz) := (HI0.out.1.ch.trans (HC2.out.ch) (fun _ e => .inl e)).trans hcz (fun z e => .inr (by have := HI0.out.1.lo; omega))
        obtain ⟨z0, z1, z2, z3⟩ := cells4h hbz
        have HOZ : Hid (Of0 (N + 1 + 1 + 1) wz (.slice la i lc) q) := HO2.out.keepB hcz (fun k e => by omega)
        clear hbz hcz
        go_wp2
        refine bodyPost_ret (v := .agg #[.int .i64 p1, .int .i64 s1, .slice la i lc, .int .i64 0]) (by simp [results, Tryd.results28, go_sem, z0, z1, z2, z3]) rfl ?_
        exact ⟨.inr ⟨HE0.out, la, i, lc, q, by rw [HS2.out.2.1, HS2.out.2.2.1]; rfl, (HOZ.out.low (by rw [HNN.out]; omega)), HI0.out.2.2.1, HI0.out.2.2.2, HIC.out, by rw [HGG.out]; exact HGF.out.1⟩, HCZ.out⟩
      · have hee : hE fl R = 4 := by rw [HE6.out, if_pos hz]
        exact ⟨rfl, .inl ⟨by rw [hee]; decide, by rw [hee]⟩, HI0.out.1.ch.trans hc (fun _ e => .inl e)⟩
end Go.Proofs.YtkncbanodpfccaaDoor
