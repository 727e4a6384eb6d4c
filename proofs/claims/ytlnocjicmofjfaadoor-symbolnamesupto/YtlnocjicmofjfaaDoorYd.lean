/- SymbolRows' walk; of no statement by itself. -/
import Derived.Test.YtlnocjicmofjfaaDoorYc
import Derived.Test.YtlnocjicmofjfaaDoorYp
namespace Go.Proofs.YtlnocjicmofjfaaDoor
open Go.RowKit
open St12 Sy13
set_option linter.unusedVariables false
set_option linter.unusedSimpArgs false

variable {Win : World → Nat → Nat → Value → Nat → List Nat → Prop} {Tab : World → Prop}
/-- A book of two lists. -/
theorem book_two {B : Nat} {w : World} {h1 h2 : Bk.Hd} (hB : B ≤ w.heap.size) (r1 : Bk.Row B w h1) (r2 : Bk.Row B w h2) (hne : ∀ g, h1.v.ownBlock = some g → h2.v.ownBlock ≠ some g) (o1 : h1.ok) (o2 : h2.ok) (n1 : h1.n ≤ 1099511627776) (n2 : h2.n ≤ 1099511627776) (cs : Array Value) (hcs : cs.toList = h1.cells ++ h2.cells) : Bk.Bk B (w.alloc (.cells cs 61)) (.slice (some ⟨w.heap.size, 0, none⟩) 2 2) [h1, h2] := by
  have hsz : cs.size = 2 * 5 := by
    rw [← Array.length_toList, hcs]
    rfl
  have ho := World.ownsRow_lit (base := B) (e := 61) (size := 5) w cs 2 hB (by decide) hsz
  refine ⟨?_, fun i h e => ?_, fun i j a b ei ej hij g ga gb => ?_, fun h e => ?_, fun h e => ?_⟩
  · rw [hcs] at ho
    simpa [Bk.hcells] using ho
  · rcases i with _ | _ | i
    · simp at e; subst e; exact ownsRow_keep r1 (chg_one _ _) (fun _ _ f => f)
    · simp at e; subst e; exact ownsRow_keep r2 (chg_one _ _) (fun _ _ f => f)
    · simp at e
  · rcases i with _ | _ | i <;> rcases j with _ | _ | j
    · omega
    · simp at ei ej; subst ei; subst ej; exact hne g ga gb
    · simp at ej
    · simp at ei ej; subst ei; subst ej; exact hne g gb ga
    · omega
    · simp at ej
    · simp at ei
    · simp at ei
    · simp at ei
  · simp at e; rcases e with rfl | rfl <;> assumption
  · simp at e; rcases e with rfl | rfl <;> assumption
def negY : Sym := ⟨-1, 0, 0, 0⟩
theorem symcs_set4 : ∀ (l : List Sym) (i : Nat) (z : Sym), i < l.length → ((((symcs l).set (i * 4) (.int .i64 z.k)).set (i * 4 + 1) (.int .u8 z.y)).set (i * 4 + 2) (.int .i64 z.l)).set (i * 4 + 3) (.int .i64 z.d) = symcs (l.set i z)
  | [], i, z, h => by simp at h
  | y :: l, 0, z, h => by simp [symcs, symc]
  | y :: l, i + 1, z, h => by
    have ih := symcs_set4 l i z (by simp at h; omega)
    have e : ∀ j, (i + 1) * 4 + j = (symc y).length + (i * 4 + j) := fun j => by simp [symc]; omega
    have e0 := e 0
    simp only [Nat.add_zero] at e0
    simp only [symcs, List.flatMap_cons, List.set_cons_succ] at ih ⊢
    rw [e 1, e 2, e 3, e0, ← ih]
    have hs : ∀ (a b : List Value) (n : Nat) (v : Value), (a ++ b).set (a.length + n) v = a ++ b.set n v := fun a b n v => by
      rw [List.set_append_right _ _ (by omega), Nat.add_sub_cancel_left]
    rw [hs, hs, hs, hs]
theorem symo_put4 {w : World} {B fb n fc : Nat} {l : List Sym} (h : SymO w B (.slice (some ⟨fb, 0, none⟩) n fc) l) (hn : l.length = n) {i : Nat} (hi : i < n) (z : Sym) : SymO ((((w.setCell ⟨fb, i * 4, none⟩ (.int .i64 z.k)).setCell ⟨fb, i * 4 + 1, none⟩ (.int .u8 z.y)).setCell ⟨fb, i * 4 + 2, none⟩ (.int .i64 z.l)).setCell ⟨fb, i * 4 + 3, none⟩ (.int .i64 z.d)) B (.slice (some ⟨fb, 0, none⟩) n fc) (l.set i z) := by
  subst hn
  have h1 := (World.ownsRow.stored h (i * 4) (.int .i64 z.k)).1
  have h2 := (World.ownsRow.stored h1 (i * 4 + 1) (.int .u8 z.y)).1
  have h3 := (World.ownsRow.stored h2 (i * 4 + 2) (.int .i64 z.l)).1
  have h4 := (World.ownsRow.stored h3 (i * 4 + 3) (.int .i64 z.d)).1
  rw [symcs_set4 l i z hi] at h4
  unfold SymO
  rw [List.length_set]
  exact h4
/-- The cells of one symbol in an own list may be written over. -/
theorem symo_may4 {w : World} {B fb n fc : Nat} {l : List Sym} (h : SymO w B (.slice (some ⟨fb, 0, none⟩) n fc) l) (hn : l.length = n) {i : Nat} {y : Sym} (hi : l[i]? = some y) (z : Sym) : (w.cell? ⟨fb, i * 4, none⟩ = some (.int .i64 y.k) ∧ w.frozen? ⟨fb, i * 4, none⟩ = false) ∧ ((w.setCell ⟨fb, i * 4, none⟩ (.int .i64 z.k)).cell? ⟨fb, i * 4 + 1, none⟩ = some (.int .u8 y.y) ∧ (w.setCell ⟨fb, i * 4, none⟩ (.int .i64 z.k)).frozen? ⟨fb, i * 4 + 1, none⟩ = false) ∧ (((w.setCell ⟨fb, i * 4, none⟩ (.int .i64 z.k)).setCell ⟨fb, i * 4 + 1, none⟩ (.int .u8 z.y)).cell? ⟨fb, i * 4 + 2, none⟩ = some (.int .i64 y.l) ∧ ((w.setCell ⟨fb, i * 4, none⟩ (.int .i64 z.k)).setCell ⟨fb, i * 4 + 1, none⟩ (.int .u8 z.y)).frozen? ⟨fb, i * 4 + 2, none⟩ = false) ∧ ((((w.setCell ⟨fb, i * 4, none⟩ (.int .i64 z.k)).setCell ⟨fb, i * 4 + 1, none⟩ (.int .u8 z.y)).setCell ⟨fb, i * 4 + 2, none⟩ (.int .i64 z.l)).cell? ⟨fb, i * 4 + 3, none⟩ = some (.int .i64 y.d) ∧ (((w.setCell ⟨fb, i * 4, none⟩ (.int .i64 z.k)).setCell ⟨fb, i * 4 + 1, none⟩ (.int .u8 z.y)).setCell ⟨fb, i * 4 + 2, none⟩ (.int .i64 z.l)).frozen? ⟨fb, i * 4 + 3, none⟩ = false) := by
  subst hn
  have hlt := (List.getElem?_eq_some_iff.1 hi).1
  have hat := symcs_at l i y hi
  have h1 := (World.ownsRow.stored h (i * 4) (.int .i64 z.k)).1
  have h2 := (World.ownsRow.stored h1 (i * 4 + 1) (.int .u8 z.y)).1
  have h3 := (World.ownsRow.stored h2 (i * 4 + 2) (.int .i64 z.l)).1
  have a0 := hat 0 (by omega)
  have a1 := hat 1 (by omega)
  have a2 := hat 2 (by omega)
  have a3 := hat 3 (by omega)
  rw [Nat.add_zero] at a0
  refine ⟨⟨(World.ownsRow.cellAt h (i * 4) (by omega)).trans a0, World.ownsRow.frozenAt h _⟩, ⟨(World.ownsRow.cellAt h1 (i * 4 + 1) (by omega)).trans ?_, World.ownsRow.frozenAt h1 _⟩, ⟨(World.ownsRow.cellAt h2 (i * 4 + 2) (by omega)).trans ?_, World.ownsRow.frozenAt h2 _⟩, ⟨(World.ownsRow.cellAt h3 (i * 4 + 3) (by omega)).trans ?_, World.ownsRow.frozenAt h3 _⟩⟩
  · rw [List.getElem?_set_ne (by omega)]; exact a1
  · rw [List.getElem?_set_ne (by omega), List.getElem?_set_ne (by omega)]; exact a2
  · rw [List.getElem?_set_ne (by omega), List.getElem?_set_ne (by omega), List.getElem?_set_ne (by omega)]; exact a3
theorem mark_I : markY.I := symI (-9) 0 0 0 ⟨by decide, by decide⟩ ⟨by decide, by decide⟩ ⟨by decide, by decide⟩ ⟨by decide, by decide⟩
set_option maxHeartbeats 32000000 in
set_option maxRecDepth 100000 in
theorem rows_any (Y : SymSpec Win Tab) (dict : Int) (hd : I64 dict) (ad : Option Addr) (c len : Nat) (l : List Sym) (ba : Option Addr) (bc bL : Nat) (bs : List Nat) (w0 : World) (hT : Tab w0) (hL : l.length = len) (hl : SymL w0 ad l) (hna : ad = none → c = 0 ∧ len = 0) (hle : len ≤ 1048576) (hbL : bs.length = bL) (hr : Row8 w0 ba bL bc (nums bs)) (hdig : Rc.Dig bs) (hble : bL ≤ 1048576) (hbc : bL ≤ bc) : Calls Tryd.prog 7 #[.int .i64 dict, .slice ad len c, .slice ba bL bc] w0 fun e w' => e = .returned (.bool true) ∧ Chg (fun _ => False) w0 w' := by
  obtain ⟨iu, hiu, hu0, hu1, hu2⟩ := info_parts infoU8
  obtain ⟨iy, hiy, hy0, hy1, hy2⟩ := info_parts infoSym
  have HT0 : Hid (Tab w0) := hT
  have HSL : Hid (SymL w0 ad l) := hl
  have HLN : Hid (l.length = len) := hL
  have HBR : Hid (Row8 w0 ba bL bc (nums bs)) := hr
  have HBL : Hid (bs.length = bL) := hbL
  have HDG : Hid (Rc.Dig bs) := hdig
  have HOK : Hid (∀ y ∈ l, y.I) := fun y hy => by
    obtain ⟨i, hi⟩ := List.mem_iff_getElem?.1 hy
    exact (hl i y hi).1
  have HLE : Hid _ := lent_any ad c len l w0 hL hl hna hle
  obtain ⟨xs, cn, er, hex⟩ : ∃ xs cn er, expandA dict l = (xs, cn, er) := ⟨_, _, _, rfl⟩
  obtain ⟨q, hq⟩ : ∃ q, xs.length = q := ⟨_, rfl⟩
  have HQB : Hid (q ≤ 273 * 1048576) := by
    show _ ≤ _
    rw [← hq]
    have h9 : ∀ (l : List Sym) (n : Nat) (b : List Nat) (s : Stt) (i : Nat), (exp n b s i l).1.length ≤ b.length + 273 * l.length := fun l => by
      induction l with
      | nil => intro n b s i; simp [exp]
      | cons y l ih =>
        intro n b s i
        simp only [exp]
        split
        · have h8 := ih n (b ++ (app n b s y).1) (app n b s y).2.1 (i + 1)
          have h7 := app_len_le n b s y
          rw [List.length_append] at h8
          rw [List.length_cons]
          omega
        · simp
    have h6 : (expandA dict l).1.length ≤ 273 * l.length := by
      unfold expandA
      split
      · simp
      · have := h9 l dict.toNat [] st0 0; simpa using this
    rw [hex, hL] at h6
    simp only at h6
    omega
  have HEX : Hid (∀ wx ax cx, Tab wx → SymL wx ax l → len ≤ cx → Calls Tryd.prog 14 #[.int .i64 dict, .slice ax len cx] wx fun e w' => ∃ oa oc, e = .returned (.tuple #[.slice oa q oc, .int .i64 (cn : Int), .int .i64 er]) ∧ w'.ownsRow wx.heap.size 5 1 (.slice oa q oc) q (ins .u8 (nums xs)) ∧ Chg (fun _ => False) wx w') := fun wx ax cx h1 h2 h3 => by
    have h9 := Y.expand dict ax cx l wx h1 hd h2 (by omega) (by omega)
    rw [hex, hL] at h9
    refine h9.mono fun e w' ⟨ov, k1, k2, k3⟩ => ?_
    simp only [hq] at k2
    obtain ⟨oa, oc, rfl⟩ := form1 k2
    exact ⟨oa, oc, k1, k2, k3⟩
  have HRE : Hid (∀ wx, SymL wx ad l → Calls Tryd.prog 32 #[.int .i64 dict, .slice ad len c] wx fun e w' => ∃ oa oc, e = .returned (.tuple #[.slice oa q oc, .int .i64 (cn : Int), .int .i64 er]) ∧ w'.ownsRow wx.heap.size 5 1 (.slice oa q oc) q (ins .u8 (nums xs)) ∧ Chg (fun _ => False) wx w') := fun wx h => by
    have h9 := rexpand_any dict ad c len l wx hL hd h (by omega)
    rw [hex] at h9
    refine h9.mono fun e w' ⟨ov, k1, k2, k3⟩ => ?_
    simp only [hq] at k2
    obtain ⟨oa, oc, rfl⟩ := form1 k2
    exact ⟨oa, oc, k1, k2, k3⟩
  clear hT hl hL hr hbL hdig hna hex hq
  go_enter Tryd.func7, Tryd.ntmps7
  go_wp2_with fail
  refine Calls.mono HLE.out ?_
  rintro z w1 ⟨fa, fc, rfl, hf1, c1⟩
  obtain ⟨fb, hfa, _, hfc⟩ := symo_fb hf1 (by simp)
  subst hfa
  have HF1 : Hid (SymO w1 w0.heap.size (.slice (some ⟨fb, 0, none⟩) (len + 1) fc) (l ++ [markY])) := hf1
  have HC1 : Hid (Chg (fun _ => False) w0 w1) := c1
  have HFB : Hid (w0.heap.size ≤ fb ∧ fb < w1.heap.size) := hf1.lt rfl
  have HSF : Hid (SymL w1 (some ⟨fb, 0, none⟩) (l ++ [markY])) := by
    obtain ⟨a9, c9, h9, h8, _⟩ := hf1.list (fun y hy => by
      rcases List.mem_append.1 hy with h | h
      · exact HOK.out y h
      · simp only [List.mem_singleton] at h; rw [h]; exact mark_I)
    simp only [Value.slice.injEq] at h9
    rw [h9.1]
    exact h8
  have HSX : Hid (SymL w1 (some ⟨fb, 0, none⟩) l) := fun j y hj => HSF.out j y (by rw [List.getElem?_append_left (List.getElem?_eq_some_iff.1 hj).1]; exact hj)
  have HT1 : Hid (Tab w1) := Y.new HT0.out c1
  clear hf1 c1 HLE
  go_wp2_with fail
  refine (HEX.out _ _ _ HT1.out HSX.out (by omega)).mono ?_
  rintro z w2 ⟨oa1, oc1, rfl, ho2, c2⟩
  have HA1 : Hid (w2.ownsRow w1.heap.size 5 1 (.slice oa1 q oc1) q (ins .u8 (nums xs))) := ho2
  have HC2 : Hid (Chg (fun _ => False) w1 w2) := c2
  clear ho2 c2
  go_wp2_with fail
  refine (HRE.out _ (HSL.out.new (chg_then HC1.out HC2.out))).mono ?_
  rintro z w3 ⟨oa2, oc2, rfl, ho3, c3⟩
  have HA2 : Hid (w3.ownsRow w2.heap.size 5 1 (.slice oa2 q oc2) q (ins .u8 (nums xs))) := ho3
  have HA13 : Hid (w3.ownsRow w1.heap.size 5 1 (.slice oa1 q oc1) q (ins .u8 (nums xs))) := ownsRow_keep HA1.out c3 (fun _ _ f => f)
  have HC3 : Hid (Chg (fun _ => False) w1 w3) := chg_then HC2.out c3
  have HZ12 : Hid (w1.heap.size ≤ w2.heap.size ∧ w2.heap.size ≤ w3.heap.size) := ⟨HC2.out.size, c3.size⟩
  have HLA1 : Hid (∀ z, (Value.slice oa1 q oc1).ownBlock = some z → w1.heap.size ≤ z ∧ z < w2.heap.size) := fun z e => World.ownsRow.lt HA1.out z e
  have hcv1 := conv_own HA13.out
  have hcv2 := conv_own HA2.out
  have HKE : Hid _ := kept_any (some ⟨fb, 0, none⟩) ad fc c len l w3 HLN.out (HSL.out.new (chg_then HC1.out HC3.out)) (HSF.out.new HC3.out) hle
  clear ho3 c3 HRE HA1 HC2
  go_wp2_with fail
  refine Calls.mono HKE.out ?_
  rintro z w4 ⟨rfl, c4⟩
  have HC4 : Hid (Chg (fun _ => False) w1 w4) := chg_then HC3.out c4
  have HA14 : Hid (w4.ownsRow w1.heap.size 5 1 (.slice oa1 q oc1) q (ins .u8 (nums xs))) := ownsRow_keep HA13.out c4 (fun _ _ f => f)
  have HA24 : Hid (w4.ownsRow w2.heap.size 5 1 (.slice oa2 q oc2) q (ins .u8 (nums xs))) := ownsRow_keep HA2.out c4 (fun _ _ f => f)
  have HZ34 : Hid (w3.heap.size ≤ w4.heap.size) := c4.size
  clear c4 HC3 HA13 HA2 hcv1 hcv2 HKE
  go_wp2_with fail
  refine (HEX.out _ _ _ (Y.new HT1.out HC4.out) (HSX.out.new HC4.out) (by omega)).mono ?_
  rintro z w5 ⟨oa3, oc3, rfl, ho5, c5⟩
  have HA3 : Hid (w5.ownsRow w4.heap.size 5 1 (.slice oa3 q oc3) q (ins .u8 (nums xs))) := ho5
  have HA15 : Hid (w5.ownsRow w1.heap.size 5 1 (.slice oa1 q oc1) q (ins .u8 (nums xs))) := ownsRow_keep HA14.out c5 (fun _ _ f => f)
  have HA25 : Hid (w5.ownsRow w2.heap.size 5 1 (.slice oa2 q oc2) q (ins .u8 (nums xs))) := ownsRow_keep HA24.out c5 (fun _ _ f => f)
  have HC5 : Hid (Chg (fun _ => False) w1 w5) := chg_then HC4.out c5
  have hcv1 := conv_own ho5
  have hcv2 := conv_own HA25.out
  have HLA3 : Hid (∀ z, (Value.slice oa3 q oc3).ownBlock = some z → w4.heap.size ≤ z ∧ z < w5.heap.size) := fun z e => World.ownsRow.lt ho5 z e
  have HLA2 : Hid (∀ z, (Value.slice oa2 q oc2).ownBlock = some z → w2.heap.size ≤ z ∧ z < w4.heap.size) := fun z e => World.ownsRow.lt HA24.out z e
  have HZ45 : Hid (w4.heap.size ≤ w5.heap.size) := c5.size
  have hqb := HQB.out
  have HH1 : Hid _ := Bk.hold_any w1.heap.size (.slice oa3 q oc3) (nums xs) q 2 w5 (by omega) (owns_base ho5 HC4.out.size) HC5.out.size (by omega)
  clear ho5 c5 HA14 HA24 HC4
  go_wp2_with fail
  refine Calls.mono HH1.out ?_
  rintro z w6 ⟨h1, va1, vc1, rfl, hva1, hok1, hn1, hrow1, c6, hm6⟩
  have HA16 : Hid (w6.ownsRow w1.heap.size 5 1 (.slice oa1 q oc1) q (ins .u8 (nums xs))) := ownsRow_keep HA15.out c6 (fun z e f => by have k1 := HLA1.out z e; have k2 := HLA3.out z f; have k3 := HZ12.out; have k4 := HZ34.out; omega)
  have HA26 : Hid (w6.ownsRow w2.heap.size 5 1 (.slice oa2 q oc2) q (ins .u8 (nums xs))) := ownsRow_keep HA25.out c6 (fun z e f => by have k1 := HLA2.out z e; have k2 := HLA3.out z f; omega)
  have HB1 : Hid (∀ z, h1.v.ownBlock = some z → w4.heap.size ≤ z ∧ z < w6.heap.size) := fun z e => ⟨by
    rcases hm6 z e with k | k
    · exact (HLA3.out z k).1
    · have := HZ45.out; omega, (hrow1.lt e).2⟩
  have HC6 : Hid (Chg (fun z => w1.heap.size ≤ z) w1 w6) := (HC5.out.mono (fun _ f => f.elim)).trans c6 (fun z e => .inl (by have := (HLA3.out z e).1; have := HZ12.out; have := HZ34.out; omega))
  have HR1 : Hid (Bk.Row w1.heap.size w6 h1 ∧ h1.ok ∧ h1.n ≤ 1099511627776 ∧ h1.v = .slice va1 h1.ys.length vc1) := ⟨hrow1, hok1, by rw [hn1]; omega, hva1⟩
  have HZ56 : Hid (w5.heap.size ≤ w6.heap.size) := c6.size
  have HH2 : Hid _ := Bk.hold_any w1.heap.size (.slice oa1 q oc1) (nums xs) q 3 w6 (by omega) HA16.out HC6.out.size (by omega)
  clear hva1 hok1 hn1 hrow1 c6 hm6 HA15 HA25 HA3 HH1 hcv1 hcv2
  go_wp2_with fail
  refine Calls.mono HH2.out ?_
  rintro z w7 ⟨h2, va2, vc2, rfl, hva2, hok2, hn2, hrow2, c7, hm7⟩
  have HA27 : Hid (w7.ownsRow w2.heap.size 5 1 (.slice oa2 q oc2) q (ins .u8 (nums xs))) := ownsRow_keep HA26.out c7 (fun z e f => by have k1 := HLA2.out z e; have k2 := HLA1.out z f; omega)
  have HR17 : Hid (Bk.Row w1.heap.size w7 h1) := ownsRow_keep HR1.out.1 c7 (fun z e f => by have k1 := HB1.out z e; have k2 := HLA1.out z f; have := HZ12.out; have := HZ34.out; omega)
  have HNE : Hid (∀ g, h1.v.ownBlock = some g → h2.v.ownBlock ≠ some g) := fun g e f => by
    have k1 := HB1.out g e
    rcases hm7 g f with k | k
    · have k2 := HLA1.out g k
      have := HZ12.out
      have := HZ34.out
      omega
    · omega
  have HC7 : Hid (Chg (fun z => w1.heap.size ≤ z) w1 w7) := HC6.out.trans c7 (fun z e => .inl (HLA1.out z e).1)
  have HR2 : Hid (Bk.Row w1.heap.size w7 h2 ∧ h2.ok ∧ h2.n ≤ 1099511627776 ∧ h2.v = .slice va2 h2.ys.length vc2) := ⟨hrow2, hok2, by rw [hn2]; omega, hva2⟩
  have HBK : Hid (Bk.Bk w1.heap.size (w7.alloc (.cells #[.slice va1 h1.ys.length vc1, .int .i64 h1.n, .int .u8 h1.mark, .string h1.want, .bool h1.kept, .slice va2 h2.ys.length vc2, .int .i64 h2.n, .int .u8 h2.mark, .string h2.want, .bool h2.kept] 61)) (.slice (some ⟨w7.heap.size, 0, none⟩) 2 2) [h1, h2]) := book_two HC7.out.size HR17.out HR2.out.1 HNE.out HR1.out.2.1 HR2.out.2.1 HR1.out.2.2.1 HR2.out.2.2.1 _ (by
    unfold Bk.Hd.cells
    rw [HR1.out.2.2.2, HR2.out.2.2.2]
    rfl)
  have c8 := chg_one w7 (.cells #[.slice va1 h1.ys.length vc1, .int .i64 h1.n, .int .u8 h1.mark, .string h1.want, .bool h1.kept, .slice va2 h2.ys.length vc2, .int .i64 h2.n, .int .u8 h2.mark, .string h2.want, .bool h2.kept] 61)
  have HC8 : Hid (Chg (fun z => w1.heap.size ≤ z) w1 (w7.alloc (.cells #[.slice va1 h1.ys.length vc1, .int .i64 h1.n, .int .u8 h1.mark, .string h1.want, .bool h1.kept, .slice va2 h2.ys.length vc2, .int .i64 h2.n, .int .u8 h2.mark, .string h2.want, .bool h2.kept] 61))) := HC7.out.trans c8 (fun _ f => f.elim)
  have HA28 : Hid _ := ownsRow_keep HA27.out c8 (fun _ _ f => f)
  clear hva2 hok2 hn2 hrow2 c7 hm7 HA26 HA16 HH2 c8 HA27 HR17 HC7 HC6 HC5
  have HTB : Hid (∀ wx, Chg (fun z => w1.heap.size ≤ z) w1 wx → Tab wx) := fun wx hc => Y.keep HT1.out HT1.out hc (fun z e => e)
  have HSB : Hid (∀ wx, Chg (fun z => w1.heap.size ≤ z) w1 wx → SymO wx w0.heap.size (.slice (some ⟨fb, 0, none⟩) (len + 1) fc) (l ++ [markY]) ∧ SymL wx (some ⟨fb, 0, none⟩) l) := fun wx hc => by
    have h9 := HF1.out.keep hc (fun z e f => by
      simp only [Value.ownBlock, Option.some.injEq] at e
      have := HFB.out.2
      omega)
    refine ⟨h9, fun j y hj => ?_⟩
    have hj2 : (l ++ [markY])[j]? = some y := by rw [List.getElem?_append_left (List.getElem?_eq_some_iff.1 hj).1]; exact hj
    obtain ⟨k0, k1, k2, k3⟩ := symo_cells h9 (by rw [List.length_append, HLN.out]; rfl) hj2
    refine ⟨HOK.out y (List.mem_of_getElem? hj), fb, 0, rfl, ?_⟩
    rw [Nat.zero_add]
    exact ⟨k0, k1, k2, k3⟩
  go_wp2_with fail
  generalize w7.alloc (.cells #[.slice va1 h1.ys.length vc1, .int .i64 h1.n, .int .u8 h1.mark, .string h1.want, .bool h1.kept, .slice va2 h2.ys.length vc2, .int .i64 h2.n, .int .u8 h2.mark, .string h2.want, .bool h2.kept] 61) = W8 at *
  refine (HEX.out _ _ _ (HTB.out _ HC8.out) (HSB.out _ HC8.out).2 (by omega)).mono ?_
  rintro z w9 ⟨oa4, oc4, rfl, ho9, c9⟩
  have HC9 : Hid (Chg (fun z => w1.heap.size ≤ z) w1 w9) := HC8.out.trans c9 (fun _ f => f.elim)
  have hcv1 := conv_own ho9
  have hcv2 := conv_own (ownsRow_keep HA28.out c9 (fun _ _ f => f))
  have HBK9 : Hid (Bk.Bk w1.heap.size w9 (.slice (some ⟨w7.heap.size, 0, none⟩) 2 2) [h1, h2]) := HBK.out.new c9
  have HHE : Hid (Calls Tryd.prog 30 #[.slice (some ⟨w7.heap.size, 0, none⟩) 2 2] w9 fun e w' => e = .returned (.bool true) ∧ Chg (fun b => w1.heap.size ≤ b) w9 w') := Bk.held_walk w1.heap.size _ [h1, h2] w9 HC9.out.size HBK9.out.book HBK9.out.rows HBK9.out.apart HBK9.out.ok (by simp) HBK9.out.small
  clear ho9 c9 HBK HBK9 HC8 HA28 HEX
  go_wp2_with fail
  refine Calls.mono HHE.out ?_
  rintro z w10 ⟨rfl, c10⟩
  have HC10 : Hid (Chg (fun z => w1.heap.size ≤ z) w1 w10) := HC9.out.trans c10 (fun z e => .inl e)
  have HAN : Hid _ := anew_any Y dict hd fb fc len l markY w0 w10 w0.heap.size HT0.out (HTB.out _ HC10.out) (Nat.le_refl _) (Nat.le_trans HC1.out.size HC10.out.size) HLN.out (HSB.out _ HC10.out).1 HOK.out hle
  clear c10 HHE HC9 hcv1 hcv2
  go_wp2_with fail
  refine Calls.mono HAN.out ?_
  rintro z w11 ⟨rfl, c11⟩
  have HC11 : Hid (Chg (fun _ => False) w0 w11) := (HC1.out.trans HC10.out (fun z e => .inr (Nat.le_trans HC1.out.size e))).trans c11 (fun z e => .inr (by rw [e]; exact HFB.out.1))
  clear c11 HAN HC10
  have HTC : Hid (∀ wx, Chg (fun _ => False) w0 wx → Tab wx) := fun wx hc => Y.new HT0.out hc
  clear HTB HSB HF1 HSF HSX HFB HC1 HT1
  go_wp2_with fail
  go_loopw [112] (fun v1 wr => ∃ (i : Nat), i ≤ len ∧ v1 = .int .i64 (i : Int) ∧ Hid (Chg (fun _ => False) w0 wr)) (fun v1 _ => len - (intOf v1).toNat)
  case atStart => exact ⟨0, by omega, rfl, HC11.out⟩
  case round =>
    clear HC11
    obtain ⟨i, hi, rfl, HCW⟩ := hrel
    have hii : (i : Int) ≤ (len : Int) := by omega
    have hbi : (len : Int) ≤ 1048576 := by omega
    by_cases hlt : i < len
    · have hd1 : decide ((i : Int) < (len : Int)) = true := by simp; omega
      have hd1' : decide (i < len) = true := decide_eq_true hlt
      obtain ⟨y, hy⟩ : ∃ y, l[i]? = some y := ⟨l[i]'(by have := HLN.out; omega), List.getElem?_eq_getElem _⟩
      obtain ⟨hyi, lb, lo, had, k0, k1, k2, k3⟩ := HSL.out.new HCW.out i y hy
      obtain ⟨sz, hsz⟩ : ∃ sz, sizeA y = sz := ⟨_, rfl⟩
      have HSI : Hid (∀ w_, Chg (fun _ => False) w0 w_ → Calls Tryd.prog 13 #[.agg #[.int .i64 y.k, .int .u8 y.y, .int .i64 y.l, .int .i64 y.d]] w_ fun e w' => e = .returned (.int .i64 sz) ∧ Chg (fun _ => False) w_ w') := fun w_ h => by
        have h9 := Y.size y w_ (HTC.out _ h) hyi
        rw [hsz] at h9
        exact h9
      have HRI : Hid (∀ w_, Calls Tryd.prog 35 #[.agg #[.int .i64 y.k, .int .u8 y.y, .int .i64 y.l, .int .i64 y.d]] w_ fun e w' => e = .returned (.int .i64 sz) ∧ Chg (fun _ => False) w_ w') := fun w_ => by
        have h9 := rsize_q y.k y.y y.l y.d hyi w_
        rw [show (⟨y.k, y.y, y.l, y.d⟩ : Sym) = y from rfl, hsz] at h9
        exact h9
      have cY := chg_one wr (.cells #[.int .i64 y.k, .int .u8 y.y, .int .i64 y.l, .int .i64 y.d] 33)
      have HYW : Hid ((wr.alloc (.cells #[.int .i64 y.k, .int .u8 y.y, .int .i64 y.l, .int .i64 y.d] 33)).heap[wr.heap.size]? = some (.cells #[.int .i64 y.k, .int .u8 y.y, .int .i64 y.l, .int .i64 y.d] 33 (0, 0))) := heap_alloc_last _ _
      have HCY : Hid (Chg (fun _ => False) w0 (wr.alloc (.cells #[.int .i64 y.k, .int .u8 y.y, .int .i64 y.l, .int .i64 y.d] 33))) := chg_then HCW.out cY
      clear hy hyi hsz cY HCW
      subst had
      go_wp2_with fail
      generalize wr.alloc (.cells #[.int .i64 y.k, .int .u8 y.y, .int .i64 y.l, .int .i64 y.d] 33) = Wy at *
      generalize wr.heap.size = gy at *
      clear k0 k1 k2 k3
      refine wp_region_free (mk := fun u => #[_, _, _, _, _, _, _, _, _, _, _, _, _, _, _, _, _, _, _, _, _, _, _, _, _, _, _, _, _, _, _, _, _, _, _, _, _, _, _, _, _, _, _, _, _, _, _, _, _, _, _, _, _, _, _, _, _, _, _, _, _, _, _, _, _, _, _, _, _, _, _, _, _, _, _, _, _, _, _, _, _, _, _, _, _, _, _, _, _, _, _, _, _, _, _, _, _, _, _, _, _, _, _, _, _, _, _, _, _, _, _, _, _, _, _, _, u 116, u 117, u 118, u 119, u 120, _, _, _, _, _, _, _, _, _, _, _, _, _, _, _, _, _, _, _, _, _, _, _, _, _, _, _, _, _, _, _, _, _, _, _, _, _, _, _, _, _, _, _, _, _, _, _, _, _, _, _, _, _, _, _, _, _, _, _, _, _, _, _, _, _, _, _, _, _, _, _, _, _, _, _, _, _, _, _, _, _, _, _, _, _, _, _, _, _]) (F := fun slot vv ww => (look [(116, .val (.agg #[.int .i64 y.k, .int .u8 y.y, .int .i64 y.l, .int .i64 y.d])), (117, .val (.int .i64 sz)), (118, .val (.agg #[.int .i64 y.k, .int .u8 y.y, .int .i64 y.l, .int .i64 y.d])), (119, .val (.int .i64 sz)), (120, .val (.bool false))] slot).holds vv ww) (fun q => match q with | 116 => u116 | 117 => u117 | 118 => u118 | 119 => u119 | 120 => u120 | _ => undef) rfl (by kernel_rfl) (by kernel_rfl) ?_ (fun _ v w w' hc h => Fact.stays _ v w w' hc h) ?_ ?_
      · repeat (refine ⟨⟨_, rfl, fun _ _ => rfl⟩, ?_⟩)
        exact trivial
      · refine ⟨?_, ?_, ?_, ?_, ?_, trivial⟩
        · intro u w hc hd K hK -- 116
          clear hd
          obtain ⟨y0, y1, y2, y3⟩ := cells4y (blk_keep HYW.out hc (fun f => f))
          clear hc
          go_simp
          exact hK.out (.agg #[.int .i64 y.k, .int .u8 y.y, .int .i64 y.l, .int .i64 y.d]) w (Chg.refl _ _) rfl
        · intro u w hc hd K hK -- 117
          have h116 : (Fact.val (.agg #[.int .i64 y.k, .int .u8 y.y, .int .i64 y.l, .int .i64 y.d])).holds (u 116) w := hd.get 0 (by kernel_rfl)
          simp only [Fact.holds] at h116
          clear hd
          simp only [h116] at hK
          go_simp
          refine (HSI.out w (chg_then HCY.out hc)).mono ?_
          rintro z wz ⟨rfl, cz⟩
          exact hK.out _ wz cz rfl
        · intro u w hc hd K hK -- 118
          clear hd
          obtain ⟨y0, y1, y2, y3⟩ := cells4y (blk_keep HYW.out hc (fun f => f))
          clear hc
          go_simp
          exact hK.out (.agg #[.int .i64 y.k, .int .u8 y.y, .int .i64 y.l, .int .i64 y.d]) w (Chg.refl _ _) rfl
        · intro u w hc hd K hK -- 119
          have h118 : (Fact.val (.agg #[.int .i64 y.k, .int .u8 y.y, .int .i64 y.l, .int .i64 y.d])).holds (u 118) w := hd.get 2 (by kernel_rfl)
          simp only [Fact.holds] at h118
          clear hd
          simp only [h118] at hK
          go_simp
          refine (HRI.out w).mono ?_
          rintro z wz ⟨rfl, cz⟩
          exact hK.out _ wz cz rfl
        · intro u w hc hd K hK -- 120
          have h117 : (Fact.val (.int .i64 sz)).holds (u 117) w := hd.get 1 (by kernel_rfl)
          simp only [Fact.holds] at h117
          have h119 : (Fact.val (.int .i64 sz)).holds (u 119) w := hd.get 3 (by kernel_rfl)
          simp only [Fact.holds] at h119
          clear hd
          simp only [h117, h119] at hK
          go_simp
          exact hK.out (.bool false) w (Chg.refl _ _) rfl
      · intro u w17 hc hA
        have e120 : u 120 = .bool false := hA.at 120 (by kernel_rfl)
        have HC17 : Hid (Chg (fun _ => False) w0 w17) := chg_then HCY.out hc
        clear hA hc HCY HYW HSI HRI
        simp only [e120]
        go_wp2_with fail
        exact ⟨⟨i + 1, by omega, by go_num, HC17.out⟩, by simp [intOf]; omega⟩
    · have hd1 : decide ((i : Int) < (len : Int)) = false := by simp; omega
      have hd1' : decide (i < len) = false := decide_eq_false hlt
      have cE := chg_one wr (.cells #[] 5)
      have hown : (wr.alloc (.cells #[] 5)).ownsRow wr.heap.size 5 1 (.slice (some ⟨wr.heap.size, 0, none⟩) 0 0) 0 [] := own_empty wr 5
      have hsrc := (Row8.src (row8_keep HBR.out HCW.out (fun _ _ f => f))).keep cE
      have hone := one8 bs
      have hszE : wr.heap.size ≤ (wr.alloc (.cells #[] 5)).heap.size := by rw [World.size_alloc]; omega
      go_wp2_with (at_builtin; refine wpList_append_moved rfl _ _ 24 rfl wr.heap.size 5 iu (.int .u8 0) 1 1 Tryd.underlying24 hiu hu0 hu1 hu2 rfl (by decide) _ 0 [] rfl ba bL bc rfl ((nums bs).map (Value.int .u8)) hown hsrc hone (by unfold maxLen; omega) (by omega) hszE ?_)
      intro v20 w20 ho20 hg20 hm20
      have c20 : Chg (fun z => (Value.slice (some ⟨wr.heap.size, 0, none⟩) 0 0).ownBlock = some z) (wr.alloc (.cells #[] 5)) w20 := (Chg.refl _ _).grown hg20 (fun z e => .inl e)
      have HC20 : Hid (Chg (fun _ => False) w0 w20) := chg_then HCW.out (cE.trans c20 (fun z e => .inr (World.ownsRow.lt hown z e).1))
      have HZ20 : Hid (wr.heap.size ≤ w20.heap.size) := (cE.trans c20 (fun z e => .inr (World.ownsRow.lt hown z e).1)).size
      obtain ⟨a20, d20, hv20⟩ := form1 ho20
      subst hv20
      have HO20 : Hid (w20.ownsRow wr.heap.size 5 1 (.slice a20 bL d20) bL (ins .u8 (nums bs))) := ho20
      clear ho20 hg20 hm20 c20 hown hsrc hone cE hszE
      have cE := chg_one w20 (.cells #[.int .u8 165] 5)
      have hown : (w20.alloc (.cells #[.int .u8 165] 5)).ownsRow wr.heap.size 5 1 (.slice a20 bL d20) bL (ins .u8 (nums bs)) := ownsRow_keep HO20.out cE (fun _ _ f => f)
      have hsrc : From (w20.alloc (.cells #[.int .u8 165] 5)) (some ⟨w20.heap.size, 0, none⟩) 1 1 1 ((nums [165]).map (Value.int .u8)) := by
        have h9 := own_from (World.ownsRow_lit (base := w20.heap.size) (e := 5) (size := 1) w20 #[.int .u8 165] 1 (Nat.le_refl _) (by decide) rfl)
        exact h9
      have hone := one8 [165]
      have hszE : wr.heap.size ≤ (w20.alloc (.cells #[.int .u8 165] 5)).heap.size := by have := HZ20.out; rw [World.size_alloc]; omega
      go_wp2_with (at_builtin; refine wpList_append_moved rfl _ _ 24 rfl wr.heap.size 5 iu (.int .u8 0) 1 1 Tryd.underlying24 hiu hu0 hu1 hu2 rfl (by decide) _ bL (ins .u8 (nums bs)) rfl (some ⟨w20.heap.size, 0, none⟩) 1 1 rfl ((nums [165]).map (Value.int .u8)) hown hsrc hone (by unfold maxLen; omega) (by omega) hszE ?_)
      intro v21 w21 ho21 hg21 hm21
      have c21 : Chg (fun z => (Value.slice a20 bL d20).ownBlock = some z) (w20.alloc (.cells #[.int .u8 165] 5)) w21 := (Chg.refl _ _).grown hg21 (fun z e => .inl e)
      have HC21 : Hid (Chg (fun _ => False) w0 w21) := (chg_then HC20.out cE).trans c21 (fun z e => .inr (Nat.le_trans HCW.out.size (World.ownsRow.lt hown z e).1))
      obtain ⟨a21, d21, hv21⟩ := form1 ho21
      subst hv21
      have HO21 : Hid (w21.ownsRow wr.heap.size 5 1 (.slice a21 (bL + 1) d21) (bL + 1) (ins .u8 (nums (bs ++ [165])))) := own_app ho21
      have hcap := own_cap ho21
      have HZW : Hid (w0.heap.size ≤ wr.heap.size) := HCW.out.size
      clear ho21 hg21 hm21 c21 hown hsrc hone cE hszE HO20 HC20 HCW
      obtain ⟨g21, hg21⟩ : ∃ g, a21 = some ⟨g, 0, none⟩ := by
        rcases HO21.out.2 with ⟨h9, h8⟩ | ⟨g, cap, cur, h9, _⟩
        · omega
        · simp only [Value.slice.injEq] at h9
          exact ⟨g, h9.1⟩
      subst hg21
      have HRT : Hid (∀ wx, Chg (fun _ => False) w21 wx → Row8 wx (some ⟨g21, 0, none⟩) bL d21 (nums bs)) := fun wx hc => by
        have h9 := row8_take (row8_own (ownsRow_keep HO21.out hc (fun _ _ f => f))) hcap bL (by omega)
        rw [show (nums (bs ++ [165])).take bL = nums bs by rw [nums_append, List.take_left' (by rw [nums_len, HBL.out])]] at h9
        exact h9
      have hcut : ∀ ww : World, (Instr.sliceAt 24 (.slice (some ⟨g21, 0, none⟩) (bL + 1) d21) none (some (.int .i64 (bL : Int))) none).run Tryd.prog ww = .ok (.slice (some ⟨g21, 0, none⟩) bL d21) ww := fun ww => run_cut_hi (some ⟨g21, 0, none⟩) (bL + 1) d21 bL ww (by omega)
      obtain ⟨ls, hls⟩ : ∃ ls, bs.map litY = ls := ⟨_, rfl⟩
      have HLS : Hid (bs.map litY = ls ∧ ls.length = bL ∧ ∀ y ∈ ls, y.I) := ⟨hls, by rw [← hls, List.length_map, HBL.out], by rw [← hls]; exact lits_I HDG.out⟩
      have HLI : Hid (∀ wx ax cx, Tab wx → Row8 wx ax bL cx (nums bs) → bL ≤ cx → Calls Tryd.prog 15 #[.slice ax bL cx] wx fun e w' => ∃ la lc, e = .returned (.slice la bL lc) ∧ SymO w' wx.heap.size (.slice la bL lc) ls ∧ Chg (fun _ => False) wx w') := fun wx ax cx h1 h2 h3 => by
        have h9 := Y.lits ax cx bs wx h1 (by rw [HBL.out]; exact h2) HDG.out (by rw [HBL.out]; exact h3) (by rw [HBL.out]; omega)
        rw [HBL.out, hls] at h9
        refine h9.mono fun e w' ⟨ov, k1, k2, k3⟩ => ?_
        obtain ⟨la, lc, hlv⟩ := formSym k2
        rw [HLS.out.2.1] at hlv
        subst hlv
        exact ⟨la, lc, k1, k2, k3⟩
      clear hls hlt hd1 hd1'
      go_wp2_with fail
      refine (HLI.out _ _ _ (HTC.out _ HC21.out) (HRT.out _ (Chg.refl _ _)) (by omega)).mono ?_
      rintro z w22 ⟨la, lc, rfl, hlo22, c22⟩
      have HC22 : Hid (Chg (fun _ => False) w0 w22) := chg_then HC21.out c22
      have HLO22 : Hid (SymO w22 w21.heap.size (.slice la bL lc) ls) := hlo22
      have HZ22 : Hid (w21.heap.size ≤ w22.heap.size) := c22.size
      have hcv1 : ∀ kx, (convert 24 9 (.slice (some ⟨g21, 0, none⟩) bL d21)).run Tryd.prog (w22.drewN kx) = .ok (.string (strOfNums (nums bs))) (w22.drewN kx) := fun kx => Bk.conv8_here (HRT.out _ (chg_then c22 (chg_drewN _ _)))
      have hcv2 : ∀ kx, (convert 24 9 (.slice ba bL bc)).run Tryd.prog (w22.drewN kx) = .ok (.string (strOfNums (nums bs))) (w22.drewN kx) := fun kx => Bk.conv8_here (row8_keep HBR.out (chg_then HC22.out (chg_drewN _ _)) (fun _ _ f => f))
      have kq : w22.cell? ⟨g21, bL, none⟩ = some (.int .u8 165) := by
        rw [World.ownsRow.cellAt (ownsRow_keep HO21.out c22 (fun _ _ f => f)) bL (by omega)]
        simp only [ins, nums, List.map_append, List.getElem?_map]
        rw [List.getElem?_append_right (by simp [HBL.out])]
        simp [HBL.out]
      clear hlo22 c22
      go_wp2_with fail
      go_quiet (fail)
      have HC23 : Hid (Chg (fun _ => False) w0 (w22.drewN nq)) := chg_then HC22.out (chg_drewN _ _)
      have HLO23 : Hid (SymO (w22.drewN nq) w21.heap.size (.slice la bL lc) ls) := HLO22.out.new (chg_drewN _ _)
      have HZ23 : Hid (w21.heap.size ≤ (w22.drewN nq).heap.size) := Nat.le_trans HZ22.out (chg_drewN w22 nq).size
      clear hcv1 hcv2 kq HC22 HLO22 hcut
      generalize w22.drewN nq = w23 at *
      have HRL : Hid (Calls Tryd.prog 36 #[.slice ba bL bc] w23 fun e w' => ∃ ra rc, e = .returned (.slice ra bL rc) ∧ SymO w' w23.heap.size (.slice ra bL rc) ls ∧ Chg (fun _ => False) w23 w') := by
        have h9 := rlits_any ba bc bL bs w23 HBL.out (row8_keep HBR.out HC23.out (fun _ _ f => f)) hble
        rw [HLS.out.1] at h9
        refine h9.mono fun e w' ⟨ov, k1, k2, k3⟩ => ?_
        obtain ⟨ra, rc, hlv⟩ := formSym k2
        rw [HLS.out.2.1] at hlv
        subst hlv
        exact ⟨ra, rc, k1, k2, k3⟩
      go_wp2_with fail
      refine Calls.mono HRL.out ?_
      rintro z w24 ⟨ra, rc, rfl, hro, c24⟩
      have HC24 : Hid (Chg (fun _ => False) w0 w24) := chg_then HC23.out c24
      have HLO24 : Hid (SymO w24 w21.heap.size (.slice la bL lc) ls) := HLO23.out.new c24
      have HRO : Hid (SymO w24 w23.heap.size (.slice ra bL rc) ls) := hro
      have HLB : Hid (∀ z, (Value.slice la bL lc).ownBlock = some z → w21.heap.size ≤ z ∧ z < w23.heap.size) := fun z e => HLO23.out.lt e
      have HZ21 : Hid (w0.heap.size ≤ w21.heap.size) := HC21.out.size
      have HZ24 : Hid (w21.heap.size ≤ w24.heap.size) := Nat.le_trans HZ23.out c24.size
      have HRS : Hid (∀ wx, Chg (fun z => (Value.slice la bL lc).ownBlock = some z) w24 wx → SymL wx ra ls) := fun wx hc => by
        have h9 := HRO.out.keep hc (fun z e f => by have k1 := (HRO.out.lt e).1; have k2 := (HLB.out z f).2; omega)
        obtain ⟨a9, c9, h8, h7, _⟩ := h9.list HLS.out.2.2
        simp only [Value.slice.injEq] at h8
        rw [h8.1]
        exact h7
      have HCC : Hid (∀ wx, Chg (fun z => (Value.slice la bL lc).ownBlock = some z) w24 wx → Chg (fun _ => False) w0 wx) := fun wx hc => HC24.out.trans hc (fun z e => .inr (by have := (HLB.out z e).1; have := HZ21.out; omega))
      have hsn := symNeq
      clear hro c24 HRL HC23 HLO23 HRT HO21
      go_wp2_with fail
      go_loopw [159] (fun v1 wq => ∃ (i : Nat) (l2 : List Sym), i ≤ bL ∧ v1 = .int .i64 (i : Int) ∧ Hid (l2.length = bL ∧ (∀ j, j < i → l2[j]? = some negY) ∧ (∀ j, i ≤ j → l2[j]? = ls[j]?) ∧ SymO wq w21.heap.size (.slice la bL lc) l2 ∧ Chg (fun z => (Value.slice la bL lc).ownBlock = some z) w24 wq)) (fun v1 _ => bL - (intOf v1).toNat)
      case atStart => exact ⟨0, ls, by omega, rfl, HLS.out.2.1, (fun j hj => by omega), (fun j hj => rfl), HLO24.out, Chg.refl _ _⟩
      case round =>
        clear HLO24
        obtain ⟨i2, l2, hi2, rfl, HI⟩ := hrel
        have hii2 : (i2 : Int) ≤ (bL : Int) := by omega
        have hbi2 : (bL : Int) ≤ 1048576 := by omega
        by_cases hlt : i2 < bL
        · have hd1 : decide ((i2 : Int) < (bL : Int)) = true := by simp; omega
          have hd1' : decide (i2 < bL) = true := decide_eq_true hlt
          obtain ⟨x, hx⟩ : ∃ x, bs[i2]? = some x := ⟨bs[i2]'(by have := HBL.out; omega), List.getElem?_eq_getElem _⟩
          have hy : ls[i2]? = some (litY x) := by rw [← HLS.out.1, List.getElem?_map, hx]; rfl
          have hy2' : l2[i2]? = some (litY x) := (HI.out.2.2.1 i2 (Nat.le_refl _)).trans hy
          obtain ⟨lb, hla, _, _⟩ := symo_fb HI.out.2.2.2.1 (by have := HI.out.1; omega)
          subst hla
          obtain ⟨_, rb, ro, hra, k0, k1, k2, k3⟩ := HRS.out _ HI.out.2.2.2.2 i2 (litY x) hy
          simp only [litY] at k0 k1 k2 k3
          have cY := chg_one wr (.cells #[.int .i64 1, .int .u8 (x : Int), .int .i64 0, .int .i64 0] 33)
          have HSY : Hid (SymO (wr.alloc (.cells #[.int .i64 1, .int .u8 (x : Int), .int .i64 0, .int .i64 0] 33)) w21.heap.size (.slice (some ⟨lb, 0, none⟩) bL lc) l2) := HI.out.2.2.2.1.new cY
          obtain ⟨f0, f1, f2, f3⟩ := symo_cells HSY.out HI.out.1 hy2'
          simp only [litY] at f0 f1 f2 f3
          obtain ⟨y0, y1, y2, y3⟩ := cells4y (heap_alloc_last wr (.cells #[.int .i64 1, .int .u8 (x : Int), .int .i64 0, .int .i64 0] 33))
          have HCY : Hid (Chg (fun z => (Value.slice (some ⟨lb, 0, none⟩) bL lc).ownBlock = some z) w24 (wr.alloc (.cells #[.int .i64 1, .int .u8 (x : Int), .int .i64 0, .int .i64 0] 33))) := HI.out.2.2.2.2.trans cY (fun _ f => f.elim)
          have HIL : Hid (l2.length = bL ∧ (∀ j, j < i2 → l2[j]? = some negY) ∧ (∀ j, i2 ≤ j → l2[j]? = ls[j]?) ∧ l2[i2]? = some (litY x)) := ⟨HI.out.1, HI.out.2.1, HI.out.2.2.1, hy2'⟩
          clear hx hy hy2' cY HI
          subst hra
          go_wp2_with fail
          generalize wr.alloc (.cells #[.int .i64 1, .int .u8 (x : Int), .int .i64 0, .int .i64 0] 33) = Wy at *
          clear k0 k1 k2 k3
          go_quiet (fail)
          have HSR : Hid (SymO (Wy.drewN nq) w21.heap.size (.slice (some ⟨lb, 0, none⟩) bL lc) l2) := HSY.out.new (chg_drewN _ _)
          have HCR : Hid (Chg (fun z => (Value.slice (some ⟨lb, 0, none⟩) bL lc).ownBlock = some z) w24 (Wy.drewN nq)) := HCY.out.trans (chg_drewN _ _) (fun _ f => f.elim)
          clear f0 f1 f2 f3 y0 y1 y2 y3 HSY HCY
          generalize Wy.drewN nq = Wz at *
          obtain ⟨⟨p0, g0⟩, ⟨p1, g1⟩, ⟨p2, g2⟩, ⟨p3, g3⟩⟩ := symo_may4 HSR.out HIL.out.1 HIL.out.2.2.2 negY
          simp only [negY, litY] at p0 p1 p2 p3 g0 g1 g2 g3
          have HSN : Hid (SymO ((((Wz.setCell ⟨lb, i2 * 4, none⟩ (.int .i64 (-1))).setCell ⟨lb, i2 * 4 + 1, none⟩ (.int .u8 0)).setCell ⟨lb, i2 * 4 + 2, none⟩ (.int .i64 0)).setCell ⟨lb, i2 * 4 + 3, none⟩ (.int .i64 0)) w21.heap.size (.slice (some ⟨lb, 0, none⟩) bL lc) (l2.set i2 negY)) := symo_put4 HSR.out HIL.out.1 hlt negY
          have HCN : Hid (Chg (fun z => (Value.slice (some ⟨lb, 0, none⟩) bL lc).ownBlock = some z) w24 ((((Wz.setCell ⟨lb, i2 * 4, none⟩ (.int .i64 (-1))).setCell ⟨lb, i2 * 4 + 1, none⟩ (.int .u8 0)).setCell ⟨lb, i2 * 4 + 2, none⟩ (.int .i64 0)).setCell ⟨lb, i2 * 4 + 3, none⟩ (.int .i64 0))) := HCR.out.trans (((((Chg.refl (fun z => (Value.slice (some ⟨lb, 0, none⟩) bL lc).ownBlock = some z) Wz).setCell (p := ⟨lb, i2 * 4, none⟩) (.inl rfl) _).setCell (p := ⟨lb, i2 * 4 + 1, none⟩) (.inl rfl) _).setCell (p := ⟨lb, i2 * 4 + 2, none⟩) (.inl rfl) _).setCell (p := ⟨lb, i2 * 4 + 3, none⟩) (.inl rfl) _) (fun z e => .inl e)
          have HIN : Hid ((l2.set i2 negY).length = bL ∧ (∀ j, j < i2 + 1 → (l2.set i2 negY)[j]? = some negY) ∧ (∀ j, i2 + 1 ≤ j → (l2.set i2 negY)[j]? = ls[j]?)) := ⟨by rw [List.length_set]; exact HIL.out.1, fun j hj => by
            by_cases e : j = i2
            · subst e; rw [List.getElem?_set_self (by have := HIL.out.1; omega)]
            · rw [List.getElem?_set_ne (by omega)]; exact HIL.out.2.1 j (by omega), fun j hj => by
            rw [List.getElem?_set_ne (by omega)]; exact HIL.out.2.2.1 j (by omega)⟩
          clear HSR HCR HIL
          go_wp2_with fail
          exact ⟨⟨i2 + 1, l2.set i2 negY, by omega, by go_num, HIN.out.1, HIN.out.2.1, HIN.out.2.2, HSN.out, HCN.out⟩, by simp [intOf]; omega⟩
        · have hd1 : decide ((i2 : Int) < (bL : Int)) = false := by simp; omega
          have hd1' : decide (i2 < bL) = false := decide_eq_false hlt
          generalize hWo : wr = Wo at *
          clear hWo
          have HL2 : Hid (l2.length = bL ∧ ∀ j, j < bL → l2[j]? = some negY) := ⟨HI.out.1, fun j hj => HI.out.2.1 j (by omega)⟩
          have HCO : Hid (Chg (fun _ => False) w0 Wo) := HCC.out _ HI.out.2.2.2.2
          have cE := chg_one Wo (.cells #[.int .i64 (-2), .int .u8 0, .int .i64 0, .int .i64 0] 33)
          have hsrc := from_sym Wo ⟨-2, 0, 0, 0⟩ 33
          have hone := symcs_cell [⟨-2, 0, 0, 0⟩]
          have hown : (Wo.alloc (.cells #[.int .i64 (-2), .int .u8 0, .int .i64 0, .int .i64 0] 33)).ownsRow w21.heap.size 33 4 (.slice la bL lc) bL (symcs l2) := by
            have h9 := SymO.new HI.out.2.2.2.1 cE
            unfold SymO at h9
            rw [HI.out.1] at h9
            exact h9
          have hszE : w21.heap.size ≤ (Wo.alloc (.cells #[.int .i64 (-2), .int .u8 0, .int .i64 0, .int .i64 0] 33)).heap.size := by
            have k1 := HI.out.2.2.2.2.size
            have k2 := HZ24.out
            rw [World.size_alloc]
            omega
          clear HI hlt
          go_wp2_with (at_builtin; refine wpList_append_moved rfl _ _ 22 rfl w21.heap.size 33 iy (.agg #[.int .i64 0, .int .u8 0, .int .i64 0, .int .i64 0]) 4 32 Tryd.underlying22 hiy hy0 hy1 hy2 rfl (by decide) _ bL (symcs l2) rfl (some ⟨Wo.heap.size, 0, none⟩) 1 1 rfl (symcs [⟨-2, 0, 0, 0⟩]) hown hsrc hone (by unfold maxLen; omega) (by omega) hszE ?_)
          intro v30 w30 ho30 hg30 hm30
          have c30 : Chg (fun z => (Value.slice la bL lc).ownBlock = some z) (Wo.alloc (.cells #[.int .i64 (-2), .int .u8 0, .int .i64 0, .int .i64 0] 33)) w30 := (Chg.refl _ _).grown hg30 (fun z e => .inl e)
          have HC30 : Hid (Chg (fun _ => False) w0 w30) := (chg_then HCO.out cE).trans c30 (fun z e => .inr (by have := (World.ownsRow.lt hown z e).1; have := HZ21.out; omega))
          obtain ⟨qa, qc, hv30⟩ := formSym ho30
          subst hv30
          have HS30 : Hid (SymO w30 w21.heap.size (.slice qa (bL + 1) qc) (l2 ++ [⟨-2, 0, 0, 0⟩])) := sym_app ho30 (by rw [List.length_append, HL2.out.1]; rfl)
          have HLQ : Hid ((l2 ++ [(⟨-2, 0, 0, 0⟩ : Sym)]).length = bL + 1) := by show _ = _; rw [List.length_append, HL2.out.1]; rfl
          obtain ⟨qb, hqa, _, _⟩ := symo_fb HS30.out (by simp)
          subst hqa
          clear ho30 hg30 hm30 c30 cE hown hsrc hone hszE HCO
          go_wp2_with fail
          refine (HLI.out _ _ _ (HTC.out _ HC30.out) (row8_keep HBR.out HC30.out (fun _ _ f => f)) hbc).mono ?_
          rintro z w31 ⟨ma, mc, rfl, hmo, c31⟩
          have HC31 : Hid (Chg (fun _ => False) w0 w31) := chg_then HC30.out c31
          have HS31 : Hid (SymO w31 w21.heap.size (.slice (some ⟨qb, 0, none⟩) (bL + 1) qc) (l2 ++ [⟨-2, 0, 0, 0⟩])) := HS30.out.new c31
          have HMS : Hid (SymL w31 ma ls) := by
            obtain ⟨a9, c9, h8, h7, _⟩ := hmo.list HLS.out.2.2
            simp only [Value.slice.injEq] at h8
            rw [h8.1]
            exact h7
          clear hmo c31 HC30 HS30
          go_wp2_with fail
          go_loopw [182] (fun v1 wq => ∃ (i : Nat), i ≤ bL ∧ v1 = .int .i64 (i : Int) ∧ Hid (Chg (fun _ => False) w31 wq)) (fun v1 _ => bL - (intOf v1).toNat)
          case atStart => exact ⟨0, by omega, rfl, Chg.refl _ _⟩
          case round =>
            obtain ⟨i3, hi3, rfl, HCW⟩ := hrel
            have hii3 : (i3 : Int) ≤ (bL : Int) := by omega
            have hbi3 : (bL : Int) ≤ 1048576 := by omega
            by_cases hlt : i3 < bL
            · have hd1 : decide ((i3 : Int) < (bL : Int)) = true := by simp; omega
              have hd1' : decide (i3 < bL) = true := decide_eq_true hlt
              obtain ⟨x, hx⟩ : ∃ x, bs[i3]? = some x := ⟨bs[i3]'(by have := HBL.out; omega), List.getElem?_eq_getElem _⟩
              have hy : ls[i3]? = some (litY x) := by rw [← HLS.out.1, List.getElem?_map, hx]; rfl
              obtain ⟨_, mb, mo, hma, k0, k1, k2, k3⟩ := HMS.out.new HCW.out i3 (litY x) hy
              simp only [litY] at k0 k1 k2 k3
              have cY := chg_one wr (.cells #[.int .i64 1, .int .u8 (x : Int), .int .i64 0, .int .i64 0] 33)
              have hcY := chg_then HCW.out cY
              obtain ⟨f0, f1, f2, f3⟩ := symo_cells (HS31.out.new hcY) HLQ.out (show (l2 ++ [(⟨-2, 0, 0, 0⟩ : Sym)])[i3]? = some negY by rw [List.getElem?_append_left (by have := HL2.out.1; omega)]; exact HL2.out.2 i3 hlt)
              simp only [negY] at f0 f1 f2 f3
              obtain ⟨bx, hbx, kb⟩ := row8_cell (row8_keep HBR.out (chg_then HC31.out hcY) (fun _ _ f => f)) hx
              obtain ⟨y0, y1, y2, y3⟩ := cells4y (heap_alloc_last wr (.cells #[.int .i64 1, .int .u8 (x : Int), .int .i64 0, .int .i64 0] 33))
              have HCY : Hid (Chg (fun _ => False) w31 (wr.alloc (.cells #[.int .i64 1, .int .u8 (x : Int), .int .i64 0, .int .i64 0] 33))) := hcY
              have hi31 : (i3 : Int) < (bL : Int) + 1 := by omega
              clear hx hy cY hcY HCW
              subst hma
              subst hbx
              go_wp2_with fail
              generalize wr.alloc (.cells #[.int .i64 1, .int .u8 (x : Int), .int .i64 0, .int .i64 0] 33) = Wy at *
              clear k0 k1 k2 k3
              go_quiet (fail)
              have HCR : Hid (Chg (fun _ => False) w31 (Wy.drewN nq)) := chg_then HCY.out (chg_drewN _ _)
              clear f0 f1 f2 f3 y0 y1 y2 y3 kb HCY
              generalize Wy.drewN nq = wz at *
              go_wp2_with fail
              exact ⟨⟨i3 + 1, by omega, by go_num, HCR.out⟩, by simp [intOf]; omega⟩
            · have hd1 : decide ((i3 : Int) < (bL : Int)) = false := by simp; omega
              have hd1' : decide (i3 < bL) = false := decide_eq_false hlt
              obtain ⟨f0, f1, f2, f3⟩ := symo_cells (HS31.out.new HCW.out) HLQ.out (show (l2 ++ [(⟨-2, 0, 0, 0⟩ : Sym)])[bL]? = some ⟨-2, 0, 0, 0⟩ by rw [List.getElem?_append_right (by have := HL2.out.1; omega), HL2.out.1, Nat.sub_self]; rfl)
              have hbb : (bL : Int) < (bL : Int) + 1 := by omega
              have HCF : Hid (Chg (fun _ => False) w0 wr) := chg_then HC31.out HCW.out
              clear HCW
              go_wp2
              go_ret
              exact ⟨rfl, HCF.out⟩
end Go.Proofs.YtlnocjicmofjfaaDoor
