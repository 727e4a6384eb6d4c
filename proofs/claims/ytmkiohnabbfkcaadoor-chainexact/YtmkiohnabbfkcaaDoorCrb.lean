/- The walk through room; of no statement by itself. -/
import Derived.Test.YtmkiohnabbfkcaaDoorCra
namespace Go.Proofs.YtmkiohnabbfkcaaDoor
open Go.RowKit
set_option linter.unusedVariables false
set_option linter.unusedSimpArgs false
def endF : FlV := ⟨1152921504606846976, none, 0, 0, []⟩
/-- What room has made: the copies q and the mark behind them. -/
structure Ro (w0 w : World) (rp : Nat) (ra : Option Addr) (rc : Nat) (fv : Value) (q : List FlV) : Prop where
  lo : w0.heap.size ≤ rp
  blk : w.heap[rp]? = some (.cells #[.slice ra (q.length + 1) rc, fv] 61 (0, 0))
  lst : w.ownsRow w0.heap.size 36 2 (.slice ra (q.length + 1) rc) (q.length + 1) (flcs (q ++ [endF]))
  ful : w.ownsRow w0.heap.size 23 1 fv q.length (q.map fun x => .slice x.a (x.n + 1) x.c)
  pcs : ∀ (k : Nat) (x : FlV), q[k]? = some x → x.mark w0.heap.size w
  chg : Chg (fun _ => False) w0 w
theorem Ro.new {w0 w w' : World} {rp : Nat} {ra : Option Addr} {rc : Nat} {fv : Value} {q : List FlV} (h : Ro w0 w rp ra rc fv q) (hc : Chg (fun _ => False) w w') : Ro w0 w' rp ra rc fv q :=
  ⟨h.lo, blk_keep h.blk hc (fun f => f), owns_newF h.lst hc, ownsRow_keep h.ful hc (fun _ _ f => f), fun k x e => (h.pcs k x e).new hc, chg_then h.chg hc⟩
theorem FlV.mark.ok {q : FlV} {B : Nat} {w : World} (h : q.mark B w) : q.ok w := by
  obtain ⟨hr, hl, hc⟩ := byO_row h.own
  refine ⟨h.id, ?_, h.dig, by omega, h.lim⟩
  have := row8_take hr (i := q.n) (by omega)
  rw [List.take_append_of_le_length (by rw [h.len]; omega), List.take_of_length_le (by rw [h.len]; omega)] at this
  exact this
theorem Ro.at {w0 w : World} {rp : Nat} {ra : Option Addr} {rc : Nat} {fv : Value} {q : List FlV} (h : Ro w0 w rp ra rc fv q) : ∃ g, ra = some ⟨g, 0, none⟩ ∧ q.length + 1 ≤ rc ∧ ∀ j u, (flcs (q ++ [endF]))[j]? = some u → w.cell? ⟨g, j, none⟩ = some u := by
  obtain ⟨g, c, e, hc, _⟩ := owns_someF h.lst (by omega)
  simp only [Value.slice.injEq, true_and] at e
  obtain ⟨rfl, rfl⟩ := e
  refine ⟨g, rfl, hc, fun j u hu => ?_⟩
  have hl := flcs_len (q ++ [endF])
  rw [List.length_append, List.length_singleton] at hl
  have hj := (List.getElem?_eq_some_iff.1 hu).1
  rw [h.lst.cellAt j (by omega)]
  exact hu
theorem Ro.L {w0 w : World} {rp : Nat} {ra : Option Addr} {rc : Nat} {fv : Value} {q : List FlV} (h : Ro w0 w rp ra rc fv q) : FlL w ra q := fun k x hk => by
  obtain ⟨g, e, _, hg⟩ := h.at
  have hkl := (List.getElem?_eq_some_iff.1 hk).1
  obtain ⟨a0, a1⟩ := flcs_at (q ++ [endF]) k x (by rw [List.getElem?_append_left hkl]; exact hk)
  exact ⟨(h.pcs k x hk).ok, g, 0, e, by rw [Nat.zero_add]; exact hg _ _ a0, by rw [Nat.zero_add]; exact hg _ _ a1⟩
theorem Rm.endS {w0 w w2 : World} {rp : Nat} {lv fv : Value} {ra : Option Addr} {n rc : Nat} {q : List FlV} (h : Rm w0 w rp lv fv q) (hn : q.length + 1 = n) (ho : w2.ownsRow w0.heap.size 36 2 (.slice ra n rc) n (flcs (q ++ [endF]))) (hg : w.grownBy w2 lv.ownBlock) :
    Ro w0 (w2.setCell ⟨rp, 0, none⟩ (.slice ra n rc)) rp ra rc fv q := by
  subst hn
  have hC0 : Chg (fun g => lv.ownBlock = some g) w w2 := (Chg.refl _ w).grown hg (fun g e => .inl e)
  have a : w2.heap[rp]? = some (.cells #[lv, fv] 61 (0, 0)) := blk_keep h.blk hC0 (fun e => by
    obtain ⟨c2, h2⟩ := owns_blkF h.lst e
    exact ty_ne h2 h.blk (by decide))
  have hC : Chg (fun g => g = rp) w2 (w2.setCell ⟨rp, 0, none⟩ (.slice ra (q.length + 1) rc)) := Chg.setCell (S := fun g => g = rp) (Chg.refl _ w2) (p := ⟨rp, 0, none⟩) (.inl rfl) _
  have ne : ∀ (B size : Nat) (e : TypeId) (v : Value) (n : Nat) (xs : List Value), w2.ownsRow B e size v n xs → e ≠ 61 → ∀ g, v.ownBlock = some g → ¬ (g = rp) := fun B size e v n xs ho he g hg f => by
    subst f
    obtain ⟨c1, h1⟩ := owns_blkF ho hg
    exact ty_ne h1 a he
  have ne0 : ∀ (B size : Nat) (e : TypeId) (v : Value) (n : Nat) (xs : List Value), w.ownsRow B e size v n xs → e ≠ 36 → ∀ g, v.ownBlock = some g → ¬ (lv.ownBlock = some g) := fun B size e v n xs ho he g hg f => by
    obtain ⟨c1, h1⟩ := owns_blkF ho hg
    obtain ⟨c2, h2⟩ := owns_blkF h.lst f
    exact ty_ne h1 h2 he
  have hf2 := owns_keepF h.ful hC0 (ne0 _ _ _ _ _ _ h.ful (by decide))
  refine ⟨h.lo, blk_set0 a, owns_keepF ho hC (ne _ _ _ _ _ _ ho (by decide)), owns_keepF hf2 hC (ne _ _ _ _ _ _ hf2 (by decide)), fun k y e => ?_, (h.chg.trans hC0 (fun g e => .inr (h.lst.lt g e).1)).trans hC (fun g e => .inr (by rw [e]; exact h.lo))⟩
  have hy := h.pcs k y e
  have h1 := ownsRow_keep hy.own hC0 (ne0 _ _ _ _ _ _ hy.own (by decide))
  exact ⟨ownsRow_keep h1 hC (ne _ _ _ _ _ _ h1 (by decide)), hy.id, hy.len, hy.dig, hy.lim⟩
theorem map_take_snoc {l : List FlV} {k : Nat} {x y : FlV} {q : List FlV} (hq : q.map FlV.f = (l.take k).map FlV.f) (hx : l[k]? = some x) (hy : y.f = x.f) : (q ++ [y]).map FlV.f = (l.take (k + 1)).map FlV.f := by
  obtain ⟨hl, rfl⟩ := List.getElem?_eq_some_iff.1 hx
  rw [List.take_succ_eq_append_getElem hl, List.map_append, List.map_append, hq, List.map_singleton, List.map_singleton, hy]
theorem from_sl (w : World) (v : Value) (t : TypeId) : From (w.alloc (.cells #[v] t)) (some ⟨w.heap.size, 0, none⟩) 1 1 1 [v] := by
  refine ⟨rfl, .inr ⟨_, rfl, fun j u hu => ?_⟩⟩
  rw [addk, Nat.zero_add]
  simp only [World.cell?, heap_alloc_last]
  simpa using hu
theorem elemFl : Tryd.prog.elem 22 = 36 := by kernel_rfl
theorem sizeFl : (sizeOf 36).run Tryd.prog = fun w => .ok 2 w := by kernel_rfl
theorem undFl : Tryd.prog.underlying 22 = some (.slice (Tryd.prog.elem 22)) := by kernel_rfl
set_option maxHeartbeats 16000000 in
set_option maxRecDepth 100000 in
theorem room_any (ad : Option Addr) (n c : Nat) (l : List FlV) (w0 : World) (hL : FlL w0 ad l) (hl : l.length = n) (hn : n ≤ 4398046510976) : Calls Tryd.prog 5 #[.slice ad n c] w0 fun e w' => ∃ ra rc fv q, e = .returned (.tuple #[.slice ra n rc, .pointer (some ⟨w0.heap.size, 0, none⟩)]) ∧ Ro w0 w' w0.heap.size ra rc fv q ∧ q.length = n ∧ q.map FlV.f = l.map FlV.f := by
  obtain ⟨iu, hiu, hu0, hu1, hu2⟩ := info_parts info5u
  obtain ⟨jb, hjb, hb0, hb1, hb2⟩ := info_parts infoBs
  obtain ⟨jf, hjf, hf0, hf1, hf2⟩ := info_parts infoFl
  have HL : Hid (FlL w0 ad l) := hL
  have HLL : Hid (l.length = n) := hl
  have hni : (n : Int) ≤ 4398046510976 := by omega
  clear hL hl
  go_enter Tryd.func5, Tryd.ntmps5
  go_wp2_with fail
  go_loopw [12] (fun i wr => ∃ k : Nat, k ≤ n ∧ i = .int .i64 (k : Int) ∧ ∃ lv fv q, Hid (Rm w0 wr w0.heap.size lv fv q) ∧ Hid (q.map FlV.f = (l.take k).map FlV.f) ∧ Hid (q.length = k)) (fun i _ => n - (intOf i).toNat)
  case atStart => exact ⟨0, by omega, rfl, _, _, [], Rm.start w0, rfl, rfl⟩
  case round =>
    obtain ⟨k, hk, rfl, lv, fv, q, HR, HQ, HQL⟩ := hrel
    have hki : (k : Int) ≤ (n : Int) := by omega
    by_cases hlt : k < n
    · have d1 : decide ((k : Int) < (n : Int)) = true := decide_eq_true (by omega)
      have d1' : decide (k < n) = true := decide_eq_true hlt
      obtain ⟨x, b, off, hx, hok, rfl, x0, x1⟩ := HL.out.at (k := k) (by rw [HLL.out]; exact hlt)
      have hci := HR.out.chg
      replace x0 := cell_chg x0 hci
      replace x1 := cell_chg x1 hci
      obtain ⟨id, xa, xn, xc, bs⟩ := x
      have HOK : Hid ((⟨id, xa, xn, xc, bs⟩ : FlV).ok w0) := hok
      have HX : Hid (l[k]? = some ⟨id, xa, xn, xc, bs⟩) := hx
      have hnx : (xn : Int) ≤ 140737488351232 := by have := hok.lim; simp only at this; omega
      have hbl := hok.len
      simp only at hbl
      have HBL : Hid (bs.length = xn) := hbl
      simp only at x0 x1
      clear hok hx hci hbl
      have cA := chg_one wr (.cells #[.int .u64 (id : Int), .slice xa xn xc] 36)
      have bA := heap_alloc_last wr (.cells #[.int .u64 (id : Int), .slice xa xn xc] 36)
      have HRA : Hid (Rm w0 (wr.alloc (.cells #[.int .u64 (id : Int), .slice xa xn xc] 36)) w0.heap.size lv fv q) := HR.out.new cA
      have m0 : (wr.alloc (.cells #[.int .u64 (id : Int), .slice xa xn xc] 36)).cell? ⟨wr.heap.size, 0, none⟩ = some (.int .u64 (id : Int)) := cell0 bA
      have m1 : (wr.alloc (.cells #[.int .u64 (id : Int), .slice xa xn xc] 36)).cell? ⟨wr.heap.size, 1, none⟩ = some (.slice xa xn xc) := cell1 bA
      have HBA : Hid ((wr.alloc (.cells #[.int .u64 (id : Int), .slice xa xn xc] 36)).heap[wr.heap.size]? = some (.cells #[.int .u64 (id : Int), .slice xa xn xc] 36 (0, 0))) := bA
      have hrf : w0.heap.size < wr.heap.size := lt_of_blk HR.out.blk
      clear cA bA HR
      go_upto_region 5 with fail
      generalize wr.alloc (.cells #[.int .u64 (id : Int), .slice xa xn xc] 36) = WA at *
      generalize wr.heap.size = fb at *
      have c3 := chg_one WA (.cells #[] 5)
      have hown3 := own_empty WA 5
      have hsrc3 := (Bk.row8_chg HOK.out.row (chg_then HRA.out.chg c3)).src
      have hone3 := oneB bs
      have hB3 : WA.heap.size ≤ (WA.alloc (.cells #[] 5)).heap.size := c3.size
      have HC3 : Hid (Chg (fun _ => False) WA (WA.alloc (.cells #[] 5))) := c3
      have m1B := cell_chg m1 c3
      simp only at hsrc3
      clear c3 m0 m1 x0 x1
      go_wp2_with (at_builtin; refine wpList_append_moved rfl _ _ 23 rfl WA.heap.size 5 iu (.int .u8 0) 1 1 Tryd.underlying23 hiu hu0 hu1 hu2 rfl (by decide) _ 0 [] rfl xa xn xc rfl ((nums bs).map (Value.int .u8)) ?h1 ?h2 ?h3 ?m1 ?m2 ?m3 ?_)
      case h1 => exact hown3
      case h2 => exact hsrc3
      case h3 => exact hone3
      case m1 => unfold maxLen; omega
      case m2 => omega
      case m3 => exact hB3
      intro v4 w4 ho4 hg4 hm4
      have c4 : Chg (fun _ => False) WA w4 := HC3.out.grown hg4 (fun j e => .inr (by simp [Value.ownBlock] at e; omega))
      try simp only [List.nil_append, Nat.zero_add] at ho4
      obtain ⟨a4, d4, rfl⟩ := form1 ho4
      have c5 := chg_one w4 (.cells #[.int .u8 77] 5)
      have hown5 := ownsRow_keep ho4 c5 (fun _ _ f => f)
      have hsrc5 := (Bk.row8_one w4 77 5).src
      have hone5 := oneB [77]
      have hB5 : WA.heap.size ≤ (w4.alloc (.cells #[.int .u8 77] 5)).heap.size := Nat.le_trans c4.size c5.size
      have HC5 : Hid (Chg (fun _ => False) WA (w4.alloc (.cells #[.int .u8 77] 5))) := chg_then c4 c5
      have HLT : Hid (∀ g, (Value.slice a4 xn d4).ownBlock = some g → WA.heap.size ≤ g) := fun g e => (ho4.lt g e).1
      clear ho4 hg4 hm4 c4 c5 hown3 hsrc3 hone3 hB3 HC3 m1B
      go_wp2_with (at_builtin; refine wpList_append_moved rfl _ _ 23 rfl WA.heap.size 5 iu (.int .u8 0) 1 1 Tryd.underlying23 hiu hu0 hu1 hu2 rfl (by decide) _ xn ((nums bs).map (Value.int .u8)) rfl (some ⟨w4.heap.size, 0, none⟩) 1 1 rfl ((nums [77]).map (Value.int .u8)) ?h1 ?h2 ?h3 ?m1 ?m2 ?m3 ?_)
      case h1 => exact hown5
      case h2 => exact hsrc5
      case h3 => exact hone5
      case m1 => unfold maxLen; omega
      case m2 => omega
      case m3 => exact hB5
      intro v6 w6 ho6 hg6 hm6
      have c6 : Chg (fun _ => False) WA w6 := HC5.out.grown hg6 (fun j e => .inr (HLT.out j e))
      have hby := byO_app ho6
      have hg6' : ∃ g cap, v6 = .slice (some ⟨g, 0, none⟩) (xn + 1) cap := by
        rcases ho6.2 with ⟨e0, e1⟩ | ⟨g, cap, cur, e0, _⟩
        · omega
        · exact ⟨g, cap, e0⟩
      obtain ⟨g6, d6, rfl⟩ := hg6'
      have hmk : (⟨id, some ⟨g6, 0, none⟩, xn, d6, bs⟩ : FlV).mark w0.heap.size w6 := ⟨owns_base hby HRA.out.chg.size, HOK.out.id, HBL.out, HOK.out.dig, HOK.out.lim⟩
      have HMK : Hid ((⟨id, some ⟨g6, 0, none⟩, xn, d6, bs⟩ : FlV).mark w0.heap.size w6) := hmk
      have HR6 : Hid (Rm w0 w6 w0.heap.size lv fv q) := HRA.out.new c6
      have HB6 : Hid (w6.heap[fb]? = some (.cells #[.int .u64 (id : Int), .slice xa xn xc] 36 (0, 0))) := blk_keep HBA.out c6 (fun f => f)
      have hd6 : xn + 1 ≤ d6 := (byO_row hby).2.2
      clear ho6 hg6 hm6 c6 hby hown5 hsrc5 hone5 hB5 HC5 HLT hmk HBA HRA
      go_upto_region 6 with fail
      obtain ⟨fa, fc, hfv⟩ := form1 HR6.out.ful
      subst hfv
      rw [HQL.out] at HR6
      have r1 : w6.cell? ⟨w0.heap.size, 1, none⟩ = some (.slice fa k fc) := cell1 HR6.out.blk
      have z1 : w6.frozen? ⟨w0.heap.size, 1, none⟩ = false := free1 HR6.out.blk
      have hsl6 : (Value.slice (some ⟨g6, 0, none⟩) (xn + 1) d6).oneCell' = true := rfl
      have cC := chg_one w6 (.cells #[.slice (some ⟨g6, 0, none⟩) (xn + 1) d6] 23)
      have hRC := HR6.out.new cC
      have HRC : Hid (Rm w0 (w6.alloc (.cells #[.slice (some ⟨g6, 0, none⟩) (xn + 1) d6] 23)) w0.heap.size lv (.slice fa k fc) q) := hRC
      have hown7 : (w6.alloc (.cells #[.slice (some ⟨g6, 0, none⟩) (xn + 1) d6] 23)).ownsRow w0.heap.size 23 1 (.slice fa k fc) k (q.map fun x => .slice x.a (x.n + 1) x.c) := by have := hRC.ful; rw [HQL.out] at this; exact this
      have hsrc7 := from_sl w6 (.slice (some ⟨g6, 0, none⟩) (xn + 1) d6) 23
      have hone7 : ∀ u ∈ ([.slice (some ⟨g6, 0, none⟩) (xn + 1) d6] : List Value), u.oneCell' = true := fun u hu => by rw [List.mem_singleton.1 hu]; rfl
      have hB7 : w0.heap.size ≤ (w6.alloc (.cells #[.slice (some ⟨g6, 0, none⟩) (xn + 1) d6] 23)).heap.size := hRC.chg.size
      have HCC : Hid (Chg (fun _ => False) w6 (w6.alloc (.cells #[.slice (some ⟨g6, 0, none⟩) (xn + 1) d6] 23))) := cC
      clear cC hRC
      go_wp2_with (at_builtin; refine wpList_append_moved rfl _ _ 59 rfl w0.heap.size 23 jb (.slice none 0 0) 1 24 Tryd.underlying59 hjb hb0 hb1 hb2 rfl (by decide) _ k (q.map fun x => .slice x.a (x.n + 1) x.c) rfl (some ⟨w6.heap.size, 0, none⟩) 1 1 rfl [.slice (some ⟨g6, 0, none⟩) (xn + 1) d6] ?h1 ?h2 ?h3 ?m1 ?m2 ?m3 ?_)
      case h1 => exact hown7
      case h2 => exact hsrc7
      case h3 => exact hone7
      case m1 => unfold maxLen; omega
      case m2 => omega
      case m3 => exact hB7
      intro v8 w8 ho8 hg8 hm8
      have hmC : (⟨id, some ⟨g6, 0, none⟩, xn, d6, bs⟩ : FlV).mark w0.heap.size (w6.alloc (.cells #[.slice (some ⟨g6, 0, none⟩) (xn + 1) d6] 23)) := HMK.out.new HCC.out
      have hf8 := HRC.out.full (x := ⟨id, some ⟨g6, 0, none⟩, xn, d6, bs⟩) hmC (by rw [HQL.out]; exact ho8) hg8 hm8
      have HN8 : Hid (Rn w0 (w8.setCell ⟨w0.heap.size, 1, none⟩ v8) w0.heap.size lv v8 q ⟨id, some ⟨g6, 0, none⟩, xn, d6, bs⟩) := HRC.out.fullS (x := ⟨id, some ⟨g6, 0, none⟩, xn, d6, bs⟩) hmC (by rw [HQL.out]; exact ho8) hg8 hm8
      have r8 : w8.cell? ⟨w0.heap.size, 1, none⟩ = some (.slice fa k fc) := cell1 hf8.1
      have z8 : w8.frozen? ⟨w0.heap.size, 1, none⟩ = false := free1 hf8.1
      have HB8 : Hid ((w8.setCell ⟨w0.heap.size, 1, none⟩ v8).heap[fb]? = some (.cells #[.int .u64 (id : Int), .slice xa xn xc] 36 (0, 0))) := by
        have hC8 : Chg (fun g => (Value.slice fa k fc).ownBlock = some g) (w6.alloc (.cells #[.slice (some ⟨g6, 0, none⟩) (xn + 1) d6] 23)) w8 := (Chg.refl _ _).grown hg8 (fun g e => .inl e)
        have hb9 := blk_keep HB6.out HCC.out (fun f => f)
        have hb10 := blk_keep hb9 hC8 (fun e => by
          obtain ⟨c2, h2⟩ := owns_blkF HRC.out.ful e
          exact ty_ne h2 hb9 (by decide))
        exact blk_keep hb10 (Chg.setCell (S := fun g => g = w0.heap.size) (Chg.refl _ w8) (p := ⟨w0.heap.size, 1, none⟩) (.inl rfl) v8) (fun e => by omega)
      obtain ⟨a8, d8, rfl⟩ := form1 ho8
      clear ho8 hg8 hm8 hf8 hown7 hsrc7 hone7 hB7 HCC hmC HRC r1 z1 HB6 hsl6
      go_upto_region 7 with fail
      obtain ⟨la, lc, hlv⟩ := formF HN8.out.lst
      subst hlv
      rw [HQL.out] at HN8
      generalize w8.setCell ⟨w0.heap.size, 1, none⟩ (.slice a8 (k + 1) d8) = W8 at *
      have hN8 := HN8.out
      have p0 : W8.cell? ⟨w0.heap.size, 0, none⟩ = some (.slice la k lc) := cell0 hN8.blk
      have p1 : W8.cell? ⟨fb, 0, none⟩ = some (.int .u64 (id : Int)) := cell0 HB8.out
      have p2 : W8.cell? ⟨fb, 1, none⟩ = some (.slice xa xn xc) := cell1 HB8.out
      have hcut : ∀ ww, (Instr.sliceAt 23 (.slice (some ⟨g6, 0, none⟩) (xn + 1) d6) none (some (.int .i64 (xn : Int))) none).run Tryd.prog ww = .ok (.slice (some ⟨g6, 0, none⟩) xn d6) ww := fun ww => run_cutZ_hi undBy elemBy sizeBy _ (xn + 1) d6 xn ww (by omega)
      have c9 : Chg (fun _ => False) W8 (W8.drew.alloc (.cells #[.int .u64 (id : Int), .slice (some ⟨g6, 0, none⟩) xn d6] 36)) := (Chg.refl _ W8).drew.alloc _
      have HN9 : Hid (Rn w0 (W8.drew.alloc (.cells #[.int .u64 (id : Int), .slice (some ⟨g6, 0, none⟩) xn d6] 36)) w0.heap.size (.slice la k lc) (.slice a8 (k + 1) d8) q ⟨id, some ⟨g6, 0, none⟩, xn, d6, bs⟩) := hN8.new c9
      have hown9 : (W8.drew.alloc (.cells #[.int .u64 (id : Int), .slice (some ⟨g6, 0, none⟩) xn d6] 36)).ownsRow w0.heap.size 36 2 (.slice la k lc) k (flcs q) := by have := HN9.out.lst; unfold FlO at this; rw [HQL.out] at this; exact this
      have hsrc9 : From (W8.drew.alloc (.cells #[.int .u64 (id : Int), .slice (some ⟨g6, 0, none⟩) xn d6] 36)) (some ⟨W8.heap.size, 0, none⟩) 1 1 2 (flcs [⟨id, some ⟨g6, 0, none⟩, xn, d6, bs⟩]) := from_fl W8.drew ⟨id, some ⟨g6, 0, none⟩, xn, d6, bs⟩ 36
      have hB9 : w0.heap.size ≤ (W8.drew.alloc (.cells #[.int .u64 (id : Int), .slice (some ⟨g6, 0, none⟩) xn d6] 36)).heap.size := Nat.le_trans hN8.chg.size c9.size
      have hcl9 := flcs_cell [⟨id, some ⟨g6, 0, none⟩, xn, d6, bs⟩]
      have p0' : (W8.alloc (.cells #[.int .u64 (id : Int), .slice (some ⟨g6, 0, none⟩) xn d6] 36)).cell? ⟨w0.heap.size, 0, none⟩ = some (.slice la k lc) := cell_chg p0 (chg_one _ _)
      clear hN8 c9 HB8 r8 z8
      go_region_law (refine step_append_moved (by rfl) (.tmp 36) (.tmp 45) 22 (by rfl) w0.heap.size 36 jf (.agg #[.int .u64 0, .slice none 0 0]) 2 32 Tryd.underlying22 hjf hf0 hf1 hf2 rfl (by decide) _ k (flcs q) (by rfl) (some ⟨W8.heap.size, 0, none⟩) 1 1 (by rfl) (flcs [⟨id, some ⟨g6, 0, none⟩, xn, d6, bs⟩]) hown9 hsrc9 hcl9 (by unfold maxLen; omega) (by omega) hB9 ?_; intro v9 w9 ho9 hg9 hm9; have hC9 := HN9.out.blk; have k9 := blk_keep hC9 ((Chg.refl (fun g => (Value.slice la k lc).ownBlock = some g) _).grown hg9 (fun g e => .inl e)) (fun e => by obtain ⟨c2, h2⟩ := owns_blkF hown9 e; exact ty_ne h2 hC9 (by decide)); have r9 := cell0 k9; have z9 := free0 k9; obtain ⟨a9, d9, rfl⟩ := formF ho9)
      all_goals
        have HRZ : Hid (Rm w0 (w9.setCell ⟨w0.heap.size, 0, none⟩ (.slice a9 (k + 1) d9)) w0.heap.size (.slice a9 (k + 1) d9) (.slice a8 (k + 1) d8) (q ++ [⟨id, some ⟨g6, 0, none⟩, xn, d6, bs⟩])) := HN9.out.listS (by unfold FlO; rw [List.length_append, List.length_singleton, HQL.out, flcs_append]; exact ho9) hg9
        have HQZ : Hid ((q ++ [(⟨id, some ⟨g6, 0, none⟩, xn, d6, bs⟩ : FlV)]).map FlV.f = (l.take (k + 1)).map FlV.f) := map_take_snoc HQ.out HX.out rfl
        have HLZ : Hid ((q ++ [(⟨id, some ⟨g6, 0, none⟩, xn, d6, bs⟩ : FlV)]).length = k + 1) := by show _ = _; rw [List.length_append, List.length_singleton, HQL.out]
        clear ho9 hg9 hm9 hC9 k9 r9 z9 hown9 hsrc9 hB9 hcl9 HN9 p0 p1 p2 p0'
        go_wp2
        go_roundw
        case rel => exact ⟨k + 1, by omega, by go_num, _, _, _, HRZ, HQZ, HLZ⟩
        case measure => simp [intOf]; omega
    · obtain rfl : k = n := by omega
      have d1 : decide ((k : Int) < (k : Int)) = false := decide_eq_false (by omega)
      obtain ⟨la, lc, hlv⟩ := formF HR.out.lst
      subst hlv
      rw [HQL.out] at HR
      have p0 : wr.cell? ⟨w0.heap.size, 0, none⟩ = some (.slice la k lc) := cell0 HR.out.blk
      have cX := chg_one wr (.cells #[.int .u64 1152921504606846976, .slice none 0 0] 36)
      have HRX : Hid (Rm w0 (wr.alloc (.cells #[.int .u64 1152921504606846976, .slice none 0 0] 36)) w0.heap.size (.slice la k lc) fv q) := HR.out.new cX
      have p0' : (wr.alloc (.cells #[.int .u64 1152921504606846976, .slice none 0 0] 36)).cell? ⟨w0.heap.size, 0, none⟩ = some (.slice la k lc) := cell_chg p0 cX
      have hown9 : (wr.alloc (.cells #[.int .u64 1152921504606846976, .slice none 0 0] 36)).ownsRow w0.heap.size 36 2 (.slice la k lc) k (flcs q) := by have := HRX.out.lst; unfold FlO at this; rw [HQL.out] at this; exact this
      have hsrc9 : From (wr.alloc (.cells #[.int .u64 1152921504606846976, .slice none 0 0] 36)) (some ⟨wr.heap.size, 0, none⟩) 1 1 2 (flcs [endF]) := from_fl wr endF 36
      have hB9 : w0.heap.size ≤ (wr.alloc (.cells #[.int .u64 1152921504606846976, .slice none 0 0] 36)).heap.size := HRX.out.chg.size
      have hcl9 := flcs_cell [endF]
      clear cX HR
      go_wp2_with (at_builtin; refine wpList_append_moved rfl _ _ 22 rfl w0.heap.size 36 jf (.agg #[.int .u64 0, .slice none 0 0]) 2 32 Tryd.underlying22 hjf hf0 hf1 hf2 rfl (by decide) _ k (flcs q) rfl (some ⟨wr.heap.size, 0, none⟩) 1 1 rfl (flcs [endF]) ?h1 ?h2 ?h3 ?m1 ?m2 ?m3 ?_)
      case h1 => exact hown9
      case h2 => exact hsrc9
      case h3 => exact hcl9
      case m1 => unfold maxLen; omega
      case m2 => omega
      case m3 => exact hB9
      intro v9 w9 ho9 hg9 hm9
      have hC9 := HRX.out.blk
      have k9 := blk_keep hC9 ((Chg.refl (fun g => (Value.slice la k lc).ownBlock = some g) _).grown hg9 (fun g e => .inl e)) (fun e => by obtain ⟨c2, h2⟩ := owns_blkF hown9 e; exact ty_ne h2 hC9 (by decide))
      have r9 := cell0 k9
      have z9 := free0 k9
      obtain ⟨a9, d9, rfl⟩ := formF ho9
      have hro := HRX.out.endS (by rw [HQL.out]) (by rw [flcs_append]; exact ho9) hg9
      have hrk := hro.at
      rw [HQL.out] at hrk
      have s9 := cell0 hro.blk
      rw [HQL.out] at s9
      have HRO : Hid (Ro w0 (w9.setCell ⟨w0.heap.size, 0, none⟩ (.slice a9 (k + 1) d9)) w0.heap.size a9 d9 fv q) := hro
      have hdk : k + 1 ≤ d9 := by obtain ⟨_, _, h, _⟩ := hrk; exact h
      have hcut : ∀ ww, (Instr.sliceAt 22 (.slice a9 (k + 1) d9) none (some (.int .i64 (k : Int))) none).run Tryd.prog ww = .ok (.slice a9 k d9) ww := fun ww => run_cutZ_hi undFl elemFl sizeFl _ (k + 1) d9 k ww (by omega)
      clear ho9 hg9 hm9 hC9 k9 hown9 hsrc9 hB9 hcl9 hro hrk p0
      go_upto_region 10 with fail
      generalize w9.setCell ⟨w0.heap.size, 0, none⟩ (.slice a9 (k + 1) d9) = W9 at *
      go_wp2
      go_ret2
      exact ⟨_, _, _, _, rfl, HRO.out, HQL.out, by rw [HQ.out, List.take_of_length_le (by rw [HLL.out]; exact Nat.le_refl _)]⟩
end Go.Proofs.YtmkiohnabbfkcaaDoor
