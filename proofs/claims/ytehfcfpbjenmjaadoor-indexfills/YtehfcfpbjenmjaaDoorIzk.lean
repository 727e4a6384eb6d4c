/- The landed index's Get; of no statement by itself. -/
import Derived.Test.YtehfcfpbjenmjaaDoorIzj
import Derived.Test.YtehfcfpbjenmjaaDoorBoundA
import Derived.Defers
import Derived.Recover
namespace Go.Proofs.YtehfcfpbjenmjaaDoor
open Go.RowKit
set_option linter.unusedVariables false
set_option linter.unusedSimpArgs false
theorem set1X {w : World} {a : Nat} {x u : Value} {t : TypeId} (h : w.heap[a]? = some (.cells #[x] t (0, 0))) : (w.setCell ⟨a, 0, none⟩ u).heap[a]? = some (.cells #[u] t (0, 0)) := Vint.blk_setk (l := [x]) h 0 u
/-- The results' cells. -/
structure GtX (N : Nat) (w0 : World) (lv : Value) (ni er : Int) (w : World) : Prop where
  l : w.heap[N]? = some (.cells #[lv] 23 (0, 0))
  i : w.heap[N + 1]? = some (.cells #[.int .i64 ni] 3 (0, 0))
  e : w.heap[N + 1 + 1]? = some (.cells #[.int .i64 er] 24 (0, 0))
  ch : Chg (fun _ => False) w0 w
  sz : N + 3 ≤ w.heap.size
  lo : w0.heap.size = N
theorem GtX.go {N : Nat} {w0 w w' : World} {lv : Value} {ni er : Int} {S : Nat → Prop} (h : GtX N w0 lv ni er w) (c : Chg S w w') (hS : ∀ k, S k → N + 3 ≤ k) : GtX N w0 lv ni er w' :=
  ⟨blk_keep h.l c (fun f => by have := hS _ f; omega), blk_keep h.i c (fun f => by have := hS _ f; omega), blk_keep h.e c (fun f => by have := hS _ f; omega), h.ch.trans c (fun k f => .inr (by have := hS _ f; have := h.lo; omega)), Nat.le_trans h.sz c.size, h.lo⟩
theorem GtX.setL {N : Nat} {w0 w : World} {lv : Value} {ni er : Int} (h : GtX N w0 lv ni er w) (v : Value) : GtX N w0 v ni er (w.setCell ⟨N, 0, none⟩ v) := by
  have c : Chg (fun z => z = N) w (w.setCell ⟨N, 0, none⟩ v) := (Chg.refl (fun z => z = N) w).setCell (p := ⟨N, 0, none⟩) (.inl rfl) _
  exact ⟨set1X h.l, blk_keep h.i c (by omega), blk_keep h.e c (by omega), h.ch.trans c (fun k f => .inr (by have := h.lo; omega)), Nat.le_trans h.sz c.size, h.lo⟩
theorem GtX.setI {N : Nat} {w0 w : World} {lv : Value} {ni er : Int} (h : GtX N w0 lv ni er w) (v : Int) : GtX N w0 lv v er (w.setCell ⟨N + 1, 0, none⟩ (.int .i64 v)) := by
  have c : Chg (fun z => z = N + 1) w (w.setCell ⟨N + 1, 0, none⟩ (.int .i64 v)) := (Chg.refl (fun z => z = N + 1) w).setCell (p := ⟨N + 1, 0, none⟩) (.inl rfl) _
  exact ⟨blk_keep h.l c (by omega), set1X h.i, blk_keep h.e c (by omega), h.ch.trans c (fun k f => .inr (by have := h.lo; omega)), Nat.le_trans h.sz c.size, h.lo⟩
theorem GtX.setE {N : Nat} {w0 w : World} {lv : Value} {ni er : Int} (h : GtX N w0 lv ni er w) (v : Int) : GtX N w0 lv ni v (w.setCell ⟨N + 1 + 1, 0, none⟩ (.int .i64 v)) := by
  have c : Chg (fun z => z = N + 1 + 1) w (w.setCell ⟨N + 1 + 1, 0, none⟩ (.int .i64 v)) := (Chg.refl (fun z => z = N + 1 + 1) w).setCell (p := ⟨N + 1 + 1, 0, none⟩) (.inl rfl) _
  exact ⟨blk_keep h.l c (by omega), blk_keep h.i c (by omega), set1X h.e, h.ch.trans c (fun k f => .inr (by have := h.lo; omega)), Nat.le_trans h.sz c.size, h.lo⟩
theorem gtX_made (w0 : World) : GtX w0.heap.size w0 (.slice none 0 0) 0 0 (((w0.alloc (.cells #[.slice none 0 0] 23)).alloc (.cells #[.int .i64 0] 3)).alloc (.cells #[.int .i64 0] 24)) := by
  have b1 := heap_alloc_last w0 (.cells #[.slice none 0 0] 23)
  have b2 := heap_alloc_last (w0.alloc (.cells #[.slice none 0 0] 23)) (.cells #[.int .i64 0] 3)
  have b3 := heap_alloc_last ((w0.alloc (.cells #[.slice none 0 0] 23)).alloc (.cells #[.int .i64 0] 3)) (.cells #[.int .i64 0] 24)
  rw [World.size_alloc] at b2
  rw [World.size_alloc, World.size_alloc] at b3
  have k1 := chg_one (w0.alloc (.cells #[.slice none 0 0] 23)) (.cells #[.int .i64 0] 3)
  have k2 := chg_one ((w0.alloc (.cells #[.slice none 0 0] 23)).alloc (.cells #[.int .i64 0] 3)) (.cells #[.int .i64 0] 24)
  exact ⟨blk_keep (blk_keep b1 k1 (fun f => f)) k2 (fun f => f), blk_keep b2 k2 (fun f => f), b3, chg_then (chg_then (chg_one w0 _) k1) k2, by rw [World.size_alloc, World.size_alloc, World.size_alloc]; omega, rfl⟩
theorem assert23_any (e : Int) (w : World) : (Instr.typeAssert (.iface 24 (.int .i64 e)) 20 24 false).run Tryd.prog w = .ok (.int .i64 e) w := by kernel_rfl
set_option maxRecDepth 100000 in
theorem reason23_any (e : Int) (w : World) : Calls Tryd.prog 26 #[.iface 24 (.int .i64 e)] w fun x w' => x = .returned (.int .i64 e) ∧ w = w' := by
  have hta := assert23_any e
  go_enter Tryd.func26, Tryd.ntmps26
  go_wp2
  go_ret
  exact ⟨rfl, rfl⟩
set_option maxHeartbeats 1000000 in
set_option maxRecDepth 100000 in
theorem catch23_idle (p q r : Value) (w : World) : CallsD Tryd.prog 25 #[p, q, r] .returning w fun e u' w' => e = .returned (.tuple #[]) ∧ u' = .returning ∧ w' = w := by
  refine callsD_of_wpS Tryd.func25 rfl fun c₀ cs hu => ?_
  apply wpS_seq
  apply wpS_region
  simp [wpOpsS, go_sem, recoverD, hu, Tryd.ntmps25, Exit.thenS]
  refine wpS_of_wp ?_
  go_wp2
  cases c₀
  simp_all [bodyPostS, results, Tryd.results25]
set_option maxHeartbeats 2000000 in
set_option maxRecDepth 100000 in
theorem catch23_gave (N : Nat) (w0 : World) (lv : Value) (ni e0 e : Int) (w : World) (h : GtX N w0 lv ni e0 w) : CallsD Tryd.prog 25 #[.pointer (some ⟨N, 0, none⟩), .pointer (some ⟨N + 1, 0, none⟩), .pointer (some ⟨N + 1 + 1, 0, none⟩)] (.panicking (gaveX e)) w fun x u' w' => x = .returned (.tuple #[]) ∧ u' = .panicking [{ v := .iface 24 (.int .i64 e), recovered := true }] ∧ GtX N w0 (.slice none 0 0) 0 e w' := by
  have HG : Hid (GtX N w0 lv ni e0 w) := h
  clear h
  refine callsD_of_wpS Tryd.func25 rfl fun c₀ cs hu => ?_
  apply wpS_seq
  apply wpS_region
  simp [wpOpsS, go_sem, recoverD, hu, Tryd.ntmps25, Exit.thenS, gaveX]
  refine wpS_of_wp ?_
  have ht : (#[.pointer (some ⟨N, 0, none⟩), .pointer (some ⟨N + 1, 0, none⟩), .pointer (some ⟨N + 1 + 1, 0, none⟩)] ++ ((Array.replicate 6 undef).setIfInBounds 1 (Value.iface 24 (.int .i64 e))).setIfInBounds 0 (Value.iface 24 (.int .i64 e))) = #[.pointer (some ⟨N, 0, none⟩), .pointer (some ⟨N + 1, 0, none⟩), .pointer (some ⟨N + 1 + 1, 0, none⟩), .iface 24 (.int .i64 e), .iface 24 (.int .i64 e), undef, undef, undef, undef] := rfl
  rw [ht]
  clear ht hu
  have HL := HG.out.setL (.slice none 0 0)
  have HI := HL.setI 0
  have HE : Hid (GtX N w0 (.slice none 0 0) 0 e (((w.setCell ⟨N, 0, none⟩ (.slice none 0 0)).setCell ⟨N + 1, 0, none⟩ (.int .i64 0)).setCell ⟨N + 1 + 1, 0, none⟩ (.int .i64 e))) := HI.setE e
  have x0 := one0 HG.out.l
  have f0 := fr0 HG.out.l
  have x1 := one0 HL.i
  have f1 := fr0 HL.i
  have x2 := one0 HI.e
  have f2 := fr0 HI.e
  clear HL HI
  go_wp2_with fail
  refine (reason23_any e _).mono ?_
  rintro x w9 ⟨rfl, rfl⟩
  go_wp2
  exact ⟨rfl, _, rfl, _, results_none rfl _ _ _, rfl, rfl, HE.out⟩
theorem getI_is (bs : List Nat) : Ix23.getI bs = if markE bs ≠ 0 then ([], 0, markE bs) else if recE bs ≠ 0 then ([], 0, recE bs) else if zerE bs (recR bs).2 ≠ 0 then ([], 0, zerE bs (recR bs).2) else if sumE bs ((recR bs).2 + Ix23.zpad (recR bs).2) ≠ 0 then ([], 0, sumE bs ((recR bs).2 + Ix23.zpad (recR bs).2)) else ((recR bs).1, (recR bs).2 + Ix23.zpad (recR bs).2 + 4, 0) := by
  unfold Ix23.getI markE
  by_cases h1 : bs.length = 0
  · rw [if_pos h1, if_pos h1, if_pos (by decide)]
  rw [if_neg h1, if_neg h1]
  by_cases h2 : bs.getD 0 0 ≠ 0
  · rw [if_pos h2, if_pos h2, if_pos (by decide)]
  rw [if_neg h2, if_neg h2, if_neg (show ¬ ((0 : Int) ≠ 0) by decide)]
  unfold recE recR
  by_cases h3 : (getN (bs.drop 1)).2.2 ≠ 0
  · rw [if_pos h3, if_pos h3, if_pos h3]
  rw [if_neg h3, if_neg h3]
  generalize Ix23.getRs (getN (bs.drop 1)).1 0 0 (1 + (getN (bs.drop 1)).2.1) [] (bs.drop (1 + (getN (bs.drop 1)).2.1)) = G
  obtain ⟨l, a, e⟩ := G
  by_cases h4 : e ≠ 0
  · rw [if_pos h4, if_pos h4]
  rw [if_neg h4, if_neg h4]
  unfold Ix23.tailI zerE sumE
  simp only
  by_cases h5 : bs.length < a + Ix23.zpad a
  · rw [if_pos h5, if_pos h5, if_pos (by decide)]
  rw [if_neg h5, if_neg h5]
  by_cases h6 : ∃ x ∈ (bs.drop a).take (Ix23.zpad a), x ≠ 0
  · rw [if_pos h6, if_pos h6, if_pos (by decide)]
  rw [if_neg h6, if_neg h6, if_neg (show ¬ ((0 : Int) ≠ 0) by decide)]
  by_cases h7 : bs.length < a + Ix23.zpad a + 4
  · rw [if_pos h7, if_pos h7, if_pos (by decide)]
  rw [if_neg h7, if_neg h7]
  by_cases h8 : (bs.drop (a + Ix23.zpad a)).take 4 ≠ crc4 (bs.take (a + Ix23.zpad a))
  · rw [if_pos h8, if_pos h8, if_pos (by decide)]
  · rw [if_neg h8, if_neg h8, if_neg (by decide)]
set_option maxHeartbeats 16000000 in
set_option maxRecDepth 100000 in
theorem get23_any (ad : Option Addr) (n c : Nat) (bs : List Nat) (w0 : World) (hT : Vint.Tab w0 ∧ Cq.Tab w0) (h : Row8 w0 ad n c (nums bs)) (hd : Rc.Dig bs) (hc : n ≤ c) (hn : n ≤ 140737488355328) (hm : (getN (bs.drop 1)).1 ≤ 8796093022208 ∨ (bs.filter (fun x => decide (x < 128))).length ≤ 17592186044416) : Calls Tryd.prog 9 #[.slice ad n c] w0 fun e w' => ∃ lv, e = .returned (.tuple #[lv, .int .i64 ((Ix23.getI bs).2.1 : Int), .int .i64 (Ix23.getI bs).2.2]) ∧ RcO w' w0.heap.size lv (Ix23.getI bs).1 ∧ Chg (fun _ => False) w0 w' := by
  have hmf : ∀ (fn : Fn) (first cap : Array Value) (w : World), (Instr.makeFunc fn first cap).run Tryd.prog w = .ok (.func fn first cap) w := fun _ _ _ _ => rfl
  have HT : Hid (Vint.Tab w0 ∧ Cq.Tab w0) := hT
  have HB : Hid (Row8 w0 ad n c (nums bs)) := h
  have HD : Hid (Rc.Dig bs) := hd
  have HM : Hid ((getN (bs.drop 1)).1 ≤ 8796093022208 ∨ Ix23.cnt bs ≤ 17592186044416) := hm
  have hbl : bs.length = n := by have h9 := h.1; rw [nums_len] at h9; exact h9
  have HN : Hid (n ≤ c ∧ n ≤ 140737488355328 ∧ bs.length = n) := ⟨hc, hn, hbl⟩
  have HGI : Hid _ := getI_is bs
  obtain ⟨N, hN⟩ : ∃ N, w0.heap.size = N := ⟨_, rfl⟩
  have HNN : Hid (w0.heap.size = N) := hN
  have HG1 : Hid _ := gtX_made w0
  rw [hN] at HG1
  clear hT h hd hc hn hm hbl
  go_enter_defers Tryd.func9, Tryd.ntmps9
  go_upto_region 2 with fail
  try rw [hN]
  generalize ((w0.alloc (.cells #[.slice none 0 0] 23)).alloc (.cells #[.int .i64 0] 3)).alloc (.cells #[.int .i64 0] 24) = w1 at *
  clear hN
  have cA := chg_one w1 (.cells #[.slice ad n c, .int .i64 0] 67)
  have HF1 : Hid (Fd w0 w1.heap.size ad n c 0 (w1.alloc (.cells #[.slice ad n c, .int .i64 0] 67)) ∧ GtX N w0 (.slice none 0 0) 0 0 (w1.alloc (.cells #[.slice ad n c, .int .i64 0] 67))) := ⟨⟨heap_alloc_last w1 _, chg_then HG1.out.ch cA, HG1.out.ch.size, by omega⟩, HG1.out.go cA (fun _ f => f.elim)⟩
  have HFN : Hid (N + 3 ≤ w1.heap.size) := HG1.out.sz
  go_upto_region 3 with fail
  obtain ⟨f, hf⟩ : ∃ f, w1.heap.size = f := ⟨_, rfl⟩
  rw [hf] at HF1 HFN
  try rw [hf]
  generalize w1.alloc (.cells #[.slice ad n c, .int .i64 0] 67) = w2 at *
  clear hf cA HG1
  have HX2 : Hid _ := mark23_any f ad n c bs w2 HF1.out.1.fld (Bk.row8_chg HB.out HF1.out.1.ch) HD.out HN.out.1 HN.out.2.1 (fun g o h0 e => by
    obtain ⟨g2, o2, e2, hcs⟩ := row8_at HB.out h0
    rw [e] at e2
    simp only [Option.some.injEq, Addr.mk.injEq, and_true] at e2
    obtain ⟨rfl, rfl⟩ := e2
    have h1 := World.block_lt_of_cell? w0 _ (hcs 0 h0)
    have h2 : g < w0.heap.size := h1
    have h3 := HF1.out.1.lo
    omega)
  go_wp2_with fail
  refine Calls.mono HX2.out ?_
  rintro z w3 ⟨⟨he, rfl⟩ | ⟨he, rfl, hf3⟩, c3⟩
  · have hGI : Ix23.getI bs = ([], 0, markE bs) := by rw [HGI.out, if_pos he]
    have hG := HF1.out.2.go c3 (fun z e => by have := HFN.out; omega)
    refine leaves_cons (f := 25) (args := #[.pointer (some ⟨N, 0, none⟩), .pointer (some ⟨N + 1, 0, none⟩), .pointer (some ⟨N + 1 + 1, 0, none⟩)]) (by simp [gaveX]) (by simp [go_sem]) ?_
    refine (catch23_gave N w0 _ _ _ (markE bs) _ hG).mono ?_
    rintro e u2 w11 ⟨rfl, rfl, hA⟩
    have k0 := one0 hA.l
    have k1 := one0 hA.i
    have k2 := one0 hA.e
    refine ⟨.tuple #[.slice none 0 0, .int .i64 0, .int .i64 (markE bs)], by simp [results, Tryd.results9, go_sem, k0, k1, k2], ?_⟩
    exact ⟨.slice none 0 0, by rw [hGI]; rfl, by rw [hGI]; exact World.ownsRow_nil _ _ _ _, hA.ch⟩
  have HF3 : Hid (Fd w0 f ad n c 1 w3 ∧ GtX N w0 (.slice none 0 0) 0 0 w3) := ⟨HF1.out.1.on hf3 c3 (fun z e => by have := HFN.out; have := HNN.out; omega) (by
    unfold markE at he
    by_cases h1 : bs.length = 0
    · rw [if_pos h1] at he; simp at he
    · have := HN.out; omega), HF1.out.2.go c3 (fun z e => by have := HFN.out; omega)⟩
  have hM0 : markE bs = 0 := he
  have HGI2 : Hid _ := HGI.out
  rw [if_neg (by simpa using hM0)] at HGI2
  clear hM0 he hf3 c3 HX2 HF1 HGI
  have HX3 : Hid _ := records_any w0 f ad n c bs w3 HB.out HD.out HN.out.1 HN.out.2.1 HF3.out.1 HM.out
  go_wp2_with fail
  refine Calls.mono HX3.out ?_
  rintro z w4 ⟨⟨he, rfl⟩ | ⟨he, lv, rfl, hrc, hf4⟩, c4⟩
  · have hGI : Ix23.getI bs = ([], 0, recE bs) := by rw [HGI2.out, if_pos he]
    have hG := HF3.out.2.go c4 (fun z e => by have := HFN.out; omega)
    refine leaves_cons (f := 25) (args := #[.pointer (some ⟨N, 0, none⟩), .pointer (some ⟨N + 1, 0, none⟩), .pointer (some ⟨N + 1 + 1, 0, none⟩)]) (by simp [gaveX]) (by simp [go_sem]) ?_
    refine (catch23_gave N w0 _ _ _ (recE bs) _ hG).mono ?_
    rintro e u2 w11 ⟨rfl, rfl, hA⟩
    have k0 := one0 hA.l
    have k1 := one0 hA.i
    have k2 := one0 hA.e
    refine ⟨.tuple #[.slice none 0 0, .int .i64 0, .int .i64 (recE bs)], by simp [results, Tryd.results9, go_sem, k0, k1, k2], ?_⟩
    exact ⟨.slice none 0 0, by rw [hGI]; rfl, by rw [hGI]; exact World.ownsRow_nil _ _ _ _, hA.ch⟩
  have HGI3 : Hid _ := HGI2.out
  rw [if_neg (by simpa using he)] at HGI3
  obtain ⟨RR, hRR⟩ : ∃ x, recR bs = x := ⟨_, rfl⟩
  rw [hRR] at HGI3 hrc hf4
  obtain ⟨R, a⟩ := RR
  simp only at HGI3 hrc hf4
  obtain ⟨la, lc, hlv, _⟩ := formI hrc
  subst hlv
  obtain ⟨ln, hln⟩ : ∃ x, R.length = x := ⟨_, rfl⟩
  rw [hln] at hrc ⊢
  have hG4 := HF3.out.2.go c4 (fun z e => by have := HFN.out; omega)
  have x4 := one0 hG4.l
  have f4 := fr0 hG4.l
  have c5 : Chg (fun z => z = N) w4 (w4.setCell ⟨N, 0, none⟩ (.slice la ln lc)) := (Chg.refl (fun z => z = N) w4).setCell (p := ⟨N, 0, none⟩) (.inl rfl) _
  have HG5 : Hid (GtX N w0 (.slice la ln lc) 0 0 (w4.setCell ⟨N, 0, none⟩ (.slice la ln lc)) ∧ RcO (w4.setCell ⟨N, 0, none⟩ (.slice la ln lc)) w0.heap.size (.slice la ln lc) R ∧ Fd w0 f ad n c a (w4.setCell ⟨N, 0, none⟩ (.slice la ln lc))) := ⟨hG4.setL (.slice la ln lc), owns_keepI hrc c5 (fun g e e2 => by subst e2; exact own_neT hrc hG4.l (by decide) e), hf4.go c5 (fun z e => by have := HFN.out; have := HNN.out; omega)⟩
  clear he hRR hrc hf4 hG4 c5 c4 HX3 HF3 HGI2
  go_upto_region 5 with fail
  clear x4 f4
  generalize w4.setCell ⟨N, 0, none⟩ (.slice la ln lc) = w5 at *
  have HX5 : Hid _ := zeros23_any w0 f ad n c a bs w5 HB.out HD.out HN.out.1 HN.out.2.1 HG5.out.2.2
  obtain ⟨S, hS⟩ : ∃ S, a + Ix23.zpad a = S := ⟨_, rfl⟩
  rw [hS] at HX5 HGI3
  go_wp2_with fail
  refine Calls.mono HX5.out ?_
  rintro z w6 ⟨⟨he, rfl⟩ | ⟨he, rfl, hf6⟩, c6⟩
  · have hGI : Ix23.getI bs = ([], 0, zerE bs a) := by rw [HGI3.out, if_pos he]
    have hG := HG5.out.1.go c6 (fun z e => by have := HFN.out; omega)
    refine leaves_cons (f := 25) (args := #[.pointer (some ⟨N, 0, none⟩), .pointer (some ⟨N + 1, 0, none⟩), .pointer (some ⟨N + 1 + 1, 0, none⟩)]) (by simp [gaveX]) (by simp [go_sem]) ?_
    refine (catch23_gave N w0 _ _ _ (zerE bs a) _ hG).mono ?_
    rintro e u2 w11 ⟨rfl, rfl, hA⟩
    have k0 := one0 hA.l
    have k1 := one0 hA.i
    have k2 := one0 hA.e
    refine ⟨.tuple #[.slice none 0 0, .int .i64 0, .int .i64 (zerE bs a)], by simp [results, Tryd.results9, go_sem, k0, k1, k2], ?_⟩
    exact ⟨.slice none 0 0, by rw [hGI]; rfl, by rw [hGI]; exact World.ownsRow_nil _ _ _ _, hA.ch⟩
  have HGI4 : Hid _ := HGI3.out
  rw [if_neg (by simpa using he)] at HGI4
  have HG6 : Hid (GtX N w0 (.slice la ln lc) 0 0 w6 ∧ RcO w6 w0.heap.size (.slice la ln lc) R ∧ Fd w0 f ad n c S w6) := ⟨HG5.out.1.go c6 (fun z e => by have := HFN.out; omega), owns_keepI HG5.out.2.1 c6 (fun g e e2 => by subst e2; exact own_neT HG5.out.2.1 HG5.out.2.2.fld (by decide) e), hf6⟩
  clear he hf6 c6 HX5 HG5 HGI3 hS
  have HX6 : Hid _ := sum23_any w0 f ad n c S bs w6 HT.out.2 HB.out HD.out HN.out.1 HN.out.2.1 HG6.out.2.2
  go_wp2_with fail
  refine Calls.mono HX6.out ?_
  rintro z w7 ⟨⟨he, rfl⟩ | ⟨he, rfl, hf7⟩, c7⟩
  · have hGI : Ix23.getI bs = ([], 0, sumE bs S) := by rw [HGI4.out, if_pos he]
    have hG := HG6.out.1.go c7 (fun z e => by have := HFN.out; omega)
    refine leaves_cons (f := 25) (args := #[.pointer (some ⟨N, 0, none⟩), .pointer (some ⟨N + 1, 0, none⟩), .pointer (some ⟨N + 1 + 1, 0, none⟩)]) (by simp [gaveX]) (by simp [go_sem]) ?_
    refine (catch23_gave N w0 _ _ _ (sumE bs S) _ hG).mono ?_
    rintro e u2 w11 ⟨rfl, rfl, hA⟩
    have k0 := one0 hA.l
    have k1 := one0 hA.i
    have k2 := one0 hA.e
    refine ⟨.tuple #[.slice none 0 0, .int .i64 0, .int .i64 (sumE bs S)], by simp [results, Tryd.results9, go_sem, k0, k1, k2], ?_⟩
    exact ⟨.slice none 0 0, by rw [hGI]; rfl, by rw [hGI]; exact World.ownsRow_nil _ _ _ _, hA.ch⟩
  have HGI5 : Hid _ := HGI4.out
  rw [if_neg (by simpa using he)] at HGI5
  obtain ⟨A, hA⟩ : ∃ A, S + 4 = A := ⟨_, rfl⟩
  rw [hA] at HGI5 hf7
  have HG7 : Hid (GtX N w0 (.slice la ln lc) 0 0 w7 ∧ RcO w7 w0.heap.size (.slice la ln lc) R ∧ Fd w0 f ad n c A w7) := ⟨HG6.out.1.go c7 (fun z e => by have := HFN.out; omega), owns_keepI HG6.out.2.1 c7 (fun g e e2 => by subst e2; exact own_neT HG6.out.2.1 HG6.out.2.2.fld (by decide) e), hf7⟩
  clear he hf7 c7 HX6 HG6 HGI4 hA
  obtain ⟨d, hd⟩ : ∃ d, w7.drew = d := ⟨_, rfl⟩
  have cD : Chg (fun _ => False) w7 w7.drew := (Chg.refl (fun _ => False) w7).drew
  rw [hd] at cD
  have HD0 : Hid (GtX N w0 (.slice la ln lc) 0 0 d ∧ RcO d w0.heap.size (.slice la ln lc) R ∧ Fd w0 f ad n c A d) := ⟨HG7.out.1.go cD (fun _ f => f.elim), HG7.out.2.1.new cD, HG7.out.2.2.go cD (fun _ f => f.elim)⟩
  have c1 : Chg (fun z => z = N) d (d.setCell ⟨N, 0, none⟩ (.slice la ln lc)) := (Chg.refl (fun z => z = N) d).setCell (p := ⟨N, 0, none⟩) (.inl rfl) _
  have HD1 : Hid (GtX N w0 (.slice la ln lc) 0 0 (d.setCell ⟨N, 0, none⟩ (.slice la ln lc)) ∧ RcO (d.setCell ⟨N, 0, none⟩ (.slice la ln lc)) w0.heap.size (.slice la ln lc) R ∧ Fd w0 f ad n c A (d.setCell ⟨N, 0, none⟩ (.slice la ln lc))) := ⟨HD0.out.1.setL _, owns_keepI HD0.out.2.1 c1 (fun g e e2 => by subst e2; exact own_neT HD0.out.2.1 HD0.out.1.l (by decide) e), HD0.out.2.2.go c1 (fun z e => by have := HFN.out; have := HNN.out; omega)⟩
  have c2 : Chg (fun z => z = N + 1) (d.setCell ⟨N, 0, none⟩ (.slice la ln lc)) ((d.setCell ⟨N, 0, none⟩ (.slice la ln lc)).setCell ⟨N + 1, 0, none⟩ (.int .i64 (A : Int))) := (Chg.refl (fun z => z = N + 1) _).setCell (p := ⟨N + 1, 0, none⟩) (.inl rfl) _
  have HD2 : Hid (GtX N w0 (.slice la ln lc) A 0 ((d.setCell ⟨N, 0, none⟩ (.slice la ln lc)).setCell ⟨N + 1, 0, none⟩ (.int .i64 (A : Int))) ∧ RcO ((d.setCell ⟨N, 0, none⟩ (.slice la ln lc)).setCell ⟨N + 1, 0, none⟩ (.int .i64 (A : Int))) w0.heap.size (.slice la ln lc) R) := ⟨HD1.out.1.setI A, owns_keepI HD1.out.2.1 c2 (fun g e e2 => by subst e2; exact own_neT HD1.out.2.1 HD1.out.1.i (by decide) e)⟩
  have HE : Hid (GtX N w0 (.slice la ln lc) A 0 (((d.setCell ⟨N, 0, none⟩ (.slice la ln lc)).setCell ⟨N + 1, 0, none⟩ (.int .i64 (A : Int))).setCell ⟨N + 1 + 1, 0, none⟩ (.int .i64 0)) ∧ RcO (((d.setCell ⟨N, 0, none⟩ (.slice la ln lc)).setCell ⟨N + 1, 0, none⟩ (.int .i64 (A : Int))).setCell ⟨N + 1 + 1, 0, none⟩ (.int .i64 0)) w0.heap.size (.slice la ln lc) R) := ⟨HD2.out.1.setE 0, owns_keepI HD2.out.2 ((Chg.refl (fun z => z = N + 1 + 1) _).setCell (p := ⟨N + 1 + 1, 0, none⟩) (.inl rfl) _) (fun g e e2 => by subst e2; exact own_neT HD2.out.2 HD2.out.1.e (by decide) e)⟩
  have x0 := one0 HD0.out.1.l
  have f0 := fr0 HD0.out.1.l
  have x1 := HD0.out.2.2.fld.x.2.1
  have y1 := HD1.out.2.2.fld.x.2.1
  have x2 := one0 HD1.out.1.i
  have f2 := fr0 HD1.out.1.i
  have x3 := one0 HD2.out.1.e
  have f3 := fr0 HD2.out.1.e
  clear cD c1 c2 HD0 HD1 HD2 HG7
  go_upto_region 7 with fail
  go_region
  all_goals
    try rw [hd]
    go_wp2
    refine leaves_cons (f := 25) (args := #[.pointer (some ⟨N, 0, none⟩), .pointer (some ⟨N + 1, 0, none⟩), .pointer (some ⟨N + 1 + 1, 0, none⟩)]) (by simp) (by simp [go_sem]) ?_
    refine (catch23_idle _ _ _ _).mono ?_
    rintro e u2 w11 ⟨rfl, rfl, rfl⟩
    have k0 := one0 HE.out.1.l
    have k1 := one0 HE.out.1.i
    have k2 := one0 HE.out.1.e
    refine ⟨.tuple #[.slice la ln lc, .int .i64 (A : Int), .int .i64 0], by simp [results, Tryd.results9, go_sem, k0, k1, k2], ?_⟩
    exact ⟨.slice la ln lc, by rw [HGI5.out], by rw [HGI5.out]; exact HE.out.2, HE.out.1.ch⟩
end Go.Proofs.YtehfcfpbjenmjaaDoor
