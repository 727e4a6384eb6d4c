/- The document's Get of headers; of no statement by itself. -/
import Derived.Test.YtkncbanodpfccaaDoorHdl
import Derived.Test.YtkncbanodpfccaaDoorCru
import Derived.Test.YtkncbanodpfccaaDoorHdg
import Derived.Laws.ResultCell
import Derived.Deep.WholeRow
namespace Go.Proofs.YtkncbanodpfccaaDoor
open Go.RowKit
open St12
set_option linter.unusedVariables false
set_option linter.unusedSimpArgs false
theorem wpList_store_row {P : Program} {ops : Array Oper} {rest : List Oper} {op : Oper} {a : Act} {w : World} {Q : Exit → Act → World → Prop} (hgd : op.guard = none) (ty : TypeId) (x y : Operand) (ho : op.op = .store ty x y)
    (g : Nat) (t : TypeId) (old cells : Array Value) (hx : a.eval x = .pointer (some ⟨g, 0, none⟩)) (hy : a.eval y = .agg cells) (hg : w.heap[g]? = some (.cells old t (0, 0)))
    (hi : (P.info? ty).map (·.size) = some cells.size) (hs : old.size = cells.size) (h1 : cells.all (·.oneCell') = true)
    (h : ∀ w', w'.heap[g]? = some (.cells cells t (0, 0)) → Chg (fun k => k = g) w w' → wpList P ops Q rest (a.put op.dst undef) w') : wpList P ops Q (op :: rest) a w :=
  wpList_plain hgd fun K hK => by
    unfold Oper.wp execOp
    simp only [ho, hx, hy, Instr.storeAt, Instr.sureAddr, Sem.run_bind, Sem.run_pure, Result.andThen_ok, run_storeVar_row w g t ty old cells hg hi hs h1]
    exact hK _ _ (h _ (setRow_heap w g old cells t (0, 0) hg) ⟨rfl, rfl, rfl, by simp [World.setRow], fun k _ hk => setRow_other w g k cells hk⟩)
theorem res_row {P : Program} {fn : Func} {p u : Tmp} {ty : TypeId} (h : fn.results = #[.cell p ty, .tmp u]) (tmps : Array Value) (w : World) (g : Nat) (t : TypeId) (cs : Array Value) (fr : Nat × Nat) (d : TypeDesc)
    (hp : tmps.getD p undef = .pointer (some ⟨g, 0, none⟩)) (hg : w.heap[g]? = some (.cells cs t fr))
    (hu : P.underlying ty = some d) (hd : (match d with | .struct _ | .array _ _ => true | _ => false) = true) (hi : (P.info? ty).map (·.size) = some cs.size) :
    (results fn tmps).run P w = .ok (.tuple #[.agg cs, tmps.getD u undef]) w := by
  rw [results_cell_tmp h, hp]
  simp only [asAddr, Sem.run_pure, Result.andThen_ok]
  rw [run_loadVar_row w g t ty cs fr d hg hu hd hi]
  rfl
theorem one4 (a b d : Int) (x : Option Addr) (m k : Nat) : (#[.int .i64 a, .int .i64 b, .slice x m k, .int .i64 d] : Array Value).all (·.oneCell') = true := by simp [Value.oneCell']
theorem oneZ4 : (#[.int .i64 0, .int .i64 0, .slice none 0 0, .int .i64 0] : Array Value).all (·.oneCell') = true := one4 0 0 0 none 0 0
theorem infoHd4 : (Tryd.prog.info? 24).map (·.size) = some 4 := by kernel_rfl
theorem stE_is (fl : Nat) (R : List Nat) : stE fl R = 0 ∨ stE fl R = 2 := by
  unfold stE
  split
  · exact .inr rfl
  · split
    · exact .inr rfl
    · exact .inl rfl
theorem Of0.keepH {B g : Nat} {w w' : World} {lv : Value} {q : List FlV} {cs : Array Value} (h : Of0 B w lv q) (hc : Chg (fun k => k = g) w w') (hb : w.heap[g]? = some (.cells cs 24 (0, 0))) : Of0 B w' lv q :=
  ⟨owns_keepF h.own hc (fun k e f => by
    subst f
    obtain ⟨c1, h1⟩ := owns_blkF h.own e
    exact ty_ne h1 hb (by decide)), fun k x e => ⟨ownsRow_keep (h.pcs k x e).1 hc (fun j e2 f => by
    subst f
    obtain ⟨c1, h1⟩ := ownsRow_blk (h.pcs k x e).1 e2
    exact ty_ne h1 hb (by decide)), (h.pcs k x e).2⟩⟩
theorem Of0.neH {B g : Nat} {w : World} {lv : Value} {q : List FlV} {cs : Array Value} (h : Of0 B w lv q) (hb : w.heap[g]? = some (.cells cs 24 (0, 0))) : lv.ownBlock ≠ some g := fun e => by
  obtain ⟨c1, h1⟩ := owns_blkF h.own e
  exact ty_ne h1 hb (by decide)
noncomputable def GA (fl : Nat) (R : List Nat) : List Flt × List Nat × Int := Hd21.getAll (fl % 4 + 1) (st2 fl R).2.1
theorem getR_is (fl : Nat) (R : List Nat) : Hd21.getR fl R = if stE fl R ≠ 0 then ((0, 0, []), 2) else if (GA fl R).2.2 ≠ 0 then ((0, 0, []), (GA fl R).2.2) else if ∃ x ∈ (GA fl R).2.1, x ≠ 0 then ((0, 0, []), 4) else if (Cn20.readF (GA fl R).1).2.2 ≠ 0 then ((0, 0, []), (Cn20.readF (GA fl R).1).2.2) else (((st1 fl R).1, (st2 fl R).1, (GA fl R).1), 0) := by
  unfold stE
  by_cases h1 : (st1 fl R).2.2 ≠ 0 ∨ (st1 fl R).1 = 0
  · rw [if_pos h1, if_pos (by decide)]
    unfold Hd21.getR
    exact if_pos h1
  · by_cases h2 : (st2 fl R).2.2 ≠ 0
    · rw [if_neg h1, if_pos h2, if_pos (by decide)]
      unfold Hd21.getR
      rw [if_neg (by exact h1)]
      exact if_pos h2
    · rw [if_neg h1, if_neg h2, if_neg (by decide)]
      unfold Hd21.getR
      rw [if_neg (by exact h1), if_neg (by exact h2)]
      rfl
theorem getAll_bad {n : Nat} {bs : List Nat} (h : (Cn20.getF bs).2.2 ≠ 0) : (Hd21.getAll (n + 1) bs).2.2 = if (Cn20.getF bs).2.2 = 1 then 2 else (Cn20.getF bs).2.2 := by
  unfold Hd21.getAll
  rw [if_pos h]
theorem getAll_step {n : Nat} {bs : List Nat} (h : (Cn20.getF bs).2.2 = 0) : (Hd21.getAll (n + 1) bs).2.2 = (Hd21.getAll n (bs.drop (Cn20.getF bs).2.1)).2.2 ∧ ((Hd21.getAll (n + 1) bs).2.2 = 0 → (Hd21.getAll (n + 1) bs).1 = (Cn20.getF bs).1 :: (Hd21.getAll n (bs.drop (Cn20.getF bs).2.1)).1 ∧ (Hd21.getAll (n + 1) bs).2.1 = (Hd21.getAll n (bs.drop (Cn20.getF bs).2.1)).2.1) := by
  have e : Hd21.getAll (n + 1) bs = if (Hd21.getAll n (bs.drop (Cn20.getF bs).2.1)).2.2 ≠ 0 then ([], [], (Hd21.getAll n (bs.drop (Cn20.getF bs).2.1)).2.2) else ((Cn20.getF bs).1 :: (Hd21.getAll n (bs.drop (Cn20.getF bs).2.1)).1, (Hd21.getAll n (bs.drop (Cn20.getF bs).2.1)).2.1, 0) := by
    rw [Hd21.getAll, if_neg (by simpa using h)]
  by_cases k : (Hd21.getAll n (bs.drop (Cn20.getF bs).2.1)).2.2 = 0
  · rw [if_neg (by simpa using k)] at e
    rw [e, k]
    exact ⟨rfl, fun _ => ⟨rfl, rfl⟩⟩
  · rw [if_pos k] at e
    rw [e]
    exact ⟨rfl, fun f => absurd f k⟩
set_option maxHeartbeats 32000000 in
set_option maxRecDepth 100000 in
theorem rget21_any (ad : Option Addr) (n c : Nat) (bs : List Nat) (w0 : World) (h : Row8 w0 ad n c (nums bs)) (hd : Rc.Dig bs) (hc : n ≤ c) (hn : n ≤ 140737488351232) : Calls Tryd.prog 18 #[.slice ad n c] w0 fun e w' => ∃ fa fn fc l, e = .returned (.tuple #[hdv (Hd21.getH bs).1.pk (Hd21.getH bs).1.sz (.slice fa fn fc) (Hd21.getH bs).1.by_, .int .i64 (Hd21.getH bs).2]) ∧ Of0 w0.heap.size w' (.slice fa fn fc) l ∧ l.length = fn ∧ l.map FlV.f = (Hd21.getH bs).1.fs ∧ Chg (fun _ => False) w0 w' := by
  have HB : Hid (Row8 w0 ad n c (nums bs)) := h
  have HD : Hid (Rc.Dig bs) := hd
  have hbl : bs.length = n := by have h9 := h.1; rw [nums_len] at h9; exact h9
  have HBL : Hid (bs.length = n) := hbl
  have hni : (n : Int) ≤ 140737488351232 := by omega
  have HGH : Hid _ := Hd21.getH.eq_1 bs
  have cA := chg_one w0 (.cells #[.int .i64 0, .int .i64 0, .slice none 0 0, .int .i64 0] 24)
  have bA := heap_alloc_last w0 (.cells #[.int .i64 0, .int .i64 0, .slice none 0 0, .int .i64 0] 24)
  have HCA : Hid (Chg (fun _ => False) w0 (w0.alloc (.cells #[.int .i64 0, .int .i64 0, .slice none 0 0, .int .i64 0] 24))) := cA
  have HBA : Hid ((w0.alloc (.cells #[.int .i64 0, .int .i64 0, .slice none 0 0, .int .i64 0] 24)).heap[w0.heap.size]? = some (.cells #[.int .i64 0, .int .i64 0, .slice none 0 0, .int .i64 0] 24 (0, 0))) := bA
  obtain ⟨z0, z1, z2, z3⟩ := cells4h bA
  clear cA bA
  by_cases hn0 : n = 0
  · subst hn0
    have HG : Hid (Hd21.getH bs = (Hd21.zeroH, 1)) := by show _ = _; rw [HGH.out, if_pos hbl]
    clear HGH h hd hbl
    go_enter Tryd.func18, Tryd.ntmps18
    go_wp2
    refine bodyPost_ret (v := .tuple #[.agg #[.int .i64 0, .int .i64 0, .slice none 0 0, .int .i64 0], .int .i64 1]) (by simp [results, Tryd.results18, go_sem]) rfl ?_
    exact ⟨none, 0, 0, [], by rw [HG.out]; rfl, Of0.nil _ _, rfl, by rw [HG.out]; rfl, HCA.out⟩
  obtain ⟨b, off, rfl, hcs⟩ := row8_at h (by omega)
  have hG1 := HGH.out
  rw [if_neg (by rw [hbl]; exact hn0)] at hG1
  have y0 : ((n : Int) == 0) = false := by simp; omega
  have x0 : w0.cell? ⟨b, off, none⟩ = some (.int .u8 ((bs.getD 0 0 : Nat) : Int)) := by simpa using hcs 0 (by omega)
  have hb256 : bs.getD 0 0 < 256 := by
    rw [List.getD_eq_getElem?_getD, List.getElem?_eq_getElem (by omega)]
    exact hd _ (List.getElem_mem _)
  obtain ⟨b0, hb0⟩ : ∃ b0, bs.getD 0 0 = b0 := ⟨_, rfl⟩
  have hS : Hd21.size bs = 4 * b0 + 4 := by unfold Hd21.size; rw [hb0]
  rw [hb0] at x0 hb256 hG1
  have hb0i : (b0 : Int) ≤ 255 := by omega
  have x0' := cell_chg x0 HCA.out
  have hn1 : (1 : Int) ≤ (n : Int) := by omega
  clear hn0
  by_cases k0 : b0 = 0
  · subst k0
    have HG : Hid (Hd21.getH bs = (Hd21.zeroH, 2)) := by show _ = _; rw [hG1, if_pos rfl]
    clear HGH h hd hbl hcs hG1 x0 hS hb0
    go_enter Tryd.func18, Tryd.ntmps18
    go_wp2
    refine bodyPost_ret (v := .tuple #[.agg #[.int .i64 0, .int .i64 0, .slice none 0 0, .int .i64 0], .int .i64 2]) (by simp [results, Tryd.results18, go_sem]) rfl ?_
    exact ⟨none, 0, 0, [], by rw [HG.out]; rfl, Of0.nil _ _, rfl, by rw [HG.out]; rfl, HCA.out⟩
  rw [if_neg k0] at hG1
  have y1 : ((b0 : Int) == 0) = false := by simp; omega
  obtain ⟨S, hSS⟩ : ∃ S, 4 * b0 + 4 = S := ⟨_, rfl⟩
  rw [hSS] at hS
  obtain ⟨P4, hP4⟩ : ∃ P4, 4 * b0 = P4 := ⟨_, rfl⟩
  have i1 : 4 * (b0 : Int) = (P4 : Int) := by omega
  have i2 : (P4 : Int) + 4 = (S : Int) := by omega
  have hPi : (P4 : Int) ≤ 1020 := by omega
  have hSi : (S : Int) ≤ 1024 := by omega
  rw [hS] at hG1
  by_cases k1 : n < S
  · have HG : Hid (Hd21.getH bs = (Hd21.zeroH, 1)) := by show _ = _; rw [hG1, if_pos (by rw [hbl]; exact k1)]
    have d1 : decide ((n : Int) < (S : Int)) = true := decide_eq_true (by omega)
    have d1' : decide (n < S) = true := decide_eq_true k1
    clear HGH h hd hbl hcs hG1 x0 hS hb0 hSS hP4 k1
    go_enter Tryd.func18, Tryd.ntmps18
    go_wp2
    refine bodyPost_ret (v := .tuple #[.agg #[.int .i64 0, .int .i64 0, .slice none 0 0, .int .i64 0], .int .i64 1]) (by simp [results, Tryd.results18, go_sem]) rfl ?_
    exact ⟨none, 0, 0, [], by rw [HG.out]; rfl, Of0.nil _ _, rfl, by rw [HG.out]; rfl, HCA.out⟩
  have d1 : decide ((n : Int) < (S : Int)) = false := decide_eq_false (by omega)
  have d1' : decide (n < S) = false := decide_eq_false k1
  rw [if_neg (by rw [hbl]; exact k1)] at hG1
  obtain ⟨S4, hS4⟩ : ∃ S4, S - 4 = S4 := ⟨_, rfl⟩
  have i3 : (S : Int) - 4 = (S4 : Int) := by omega
  have hS4i : (S4 : Int) ≤ 1020 := by omega
  have hS4n : (S4 : Int) + 4 ≤ (n : Int) := by omega
  have hS44 : 4 ≤ S4 := by omega
  rw [hS4] at hG1
  have x1 : w0.cell? ⟨b, off + 1, none⟩ = some (.int .u8 ((bs.getD 1 0 : Nat) : Int)) := hcs 1 (by omega)
  have hf256 : bs.getD 1 0 < 256 := by
    rw [List.getD_eq_getElem?_getD, List.getElem?_eq_getElem (by omega)]
    exact hd _ (List.getElem_mem _)
  obtain ⟨fl, hfl⟩ : ∃ fl, bs.getD 1 0 = fl := ⟨_, rfl⟩
  rw [hfl] at x1 hf256 hG1
  have hfli : (fl : Int) ≤ 255 := by omega
  have x1' := cell_chg x1 HCA.out
  have hcut1 : ∀ ww, (Instr.sliceAt 25 (.slice (some ⟨b, off, none⟩) n c) (some (.int .i64 (S4 : Int))) (some (.int .i64 (S : Int))) none).run Tryd.prog ww = .ok (.slice (cutZ (some ⟨b, off, none⟩) c S4 1) 4 (c - S4)) ww := fun ww => by
    have h9 := run_cutZ_lh (some ⟨b, off, none⟩) n c S4 S ww (by omega) (by omega)
    rw [show S - S4 = 4 by omega] at h9
    exact h9
  have hcut2 : ∀ ww, (Instr.sliceAt 25 (.slice (some ⟨b, off, none⟩) n c) none (some (.int .i64 (S4 : Int))) none).run Tryd.prog ww = .ok (.slice (some ⟨b, off, none⟩) S4 c) ww := fun ww => run_cutZ_hi undBy elemBy sizeBy _ n c S4 ww (by omega)
  have hcut3 : ∀ ww, (Instr.sliceAt 25 (.slice (some ⟨b, off, none⟩) n c) (some (.int .i64 2)) (some (.int .i64 (S4 : Int))) none).run Tryd.prog ww = .ok (.slice (cutZ (some ⟨b, off, none⟩) c 2 1) (S4 - 2) (c - 2)) ww := fun ww => run_cutZ_lh (some ⟨b, off, none⟩) n c 2 S4 ww (by omega) (by omega)
  obtain ⟨T4, hT4⟩ : ∃ T4, (bs.drop S4).take 4 = T4 := ⟨_, rfl⟩
  obtain ⟨PR, hPR⟩ : ∃ PR, bs.take S4 = PR := ⟨_, rfl⟩
  have HT4 : Hid (Row8 (w0.alloc (.cells #[.int .i64 0, .int .i64 0, .slice none 0 0, .int .i64 0] 24)) (cutZ (some ⟨b, off, none⟩) c S4 1) 4 (c - S4) (nums T4)) := by rw [← hT4]; exact row8_cutZ2 (Bk.row8_chg HB.out HCA.out) hc (by omega)
  have HPR : Hid (Row8 (w0.alloc (.cells #[.int .i64 0, .int .i64 0, .slice none 0 0, .int .i64 0] 24)) (some ⟨b, off, none⟩) S4 c (nums PR)) := by rw [← hPR]; exact row8_take (Bk.row8_chg HB.out HCA.out) (by omega)
  have HDP : Hid (Rc.Dig PR) := by rw [← hPR]; exact dig_take hd _
  have HDT : Hid (Rc.Dig T4) := by rw [← hT4]; exact dig_take (dig_drop hd _) _
  have HS4 : Hid (S4 ≤ 1020) := by show _ ≤ _; omega
  obtain ⟨R, hR⟩ : ∃ R, PR.drop 2 = R := ⟨_, rfl⟩
  have HRR : Hid (∀ ww, Chg (fun _ => False) w0 ww → Row8 ww (cutZ (some ⟨b, off, none⟩) c 2 1) (S4 - 2) (c - 2) (nums R)) := fun ww hcw => by
    have h9 := row8_cutZ2 (Bk.row8_chg HB.out hcw) hc (k := 2) (m := S4 - 2) (by omega)
    rw [← hR, ← hPR, List.drop_take]
    exact h9
  have HDR : Hid (Rc.Dig R) := by rw [← hR]; exact dig_drop HDP.out _
  rw [hT4, hPR, hR] at hG1
  have HBC : Hid (∀ ww, Chg (fun _ => False) w0 ww → ww.cell? ⟨b, off + 1, none⟩ = some (.int .u8 (fl : Int))) := fun ww hcw => cell_chg x1 hcw
  have HLT : Hid (b < w0.heap.size) := by have h9 := World.block_lt_of_cell? _ _ x1; exact h9
  have HSN : Hid _ := str_neqH HDT.out (crc4_dig PR)
  have hcc : n ≤ c := hc
  have HG1 : Hid _ := hG1
  clear HGH h hd hbl hcs hG1 x0 x1 hS hb0 hSS hP4 k1 hS4 hfl hT4 hPR hR
  go_enter Tryd.func18, Tryd.ntmps18
  go_upto_region 8 with fail
  have hw35 : IntKind.i64.wrap (S4 : Int) = (S4 : Int) := by simp [IntKind.wrap, IntKind.signed, IntKind.bits]; omega
  refine wp_region_last (mk := fun u => #[_, _, _, _, _, _, _, _, _, _, _, _, _, _, _, _, _, _, _, _, _, _, _, _, _, _, _, _, _, _, _, _, _, u 33, u 34, u 35, u 36, u 37, u 38, u 39, u 40, u 41, u 42, u 43, u 44, _, _, _, _, _, _, _, _, _, _, _, _, _, _, _, _, _, _, _, _, _, _, _, _, _, _, _, _, _, _, _, _, _, _, _, _, _, _, _, _, _, _, _, _, _, _, _, _, _, _, _, _, _, _, _, _, _, _, _, _, _, _, _, _, _, _, _, _, _, _, _, _, _, _, _, _, _, _, _, _, _, _, _]) (F := fun slot vv ww => (look [(33, .val (.slice (some ⟨b, off, none⟩) n c)), (34, .val (.int .i64 (S : Int))), (35, .val (.int .i64 (S4 : Int))), (36, .val (.int .i64 (S : Int))), (37, .val (.slice (cutZ (some ⟨b, off, none⟩) c S4 1) 4 (c - S4))), (38, .val (.string (strOfNums (nums T4)))), (39, .val (.slice (some ⟨b, off, none⟩) n c)), (40, .val (.int .i64 (S : Int))), (41, .val (.int .i64 (S4 : Int))), (42, .val (.slice (some ⟨b, off, none⟩) S4 c)), (43, .is (fun p ww => ∃ a cc, p = .slice a 4 cc ∧ Row8 ww a 4 cc (nums (crc4 PR)))), (44, .val (.string (strOfNums (nums (crc4 PR)))))] slot).holds vv ww) (fun _ => undef) rfl (by kernel_rfl) 12 _ rfl rfl (by kernel_rfl) ?_ (fun _ v w w' hc h => Fact.stays _ v w w' hc h) ?_ ?_
  · repeat (refine ⟨⟨_, rfl, fun _ _ => rfl⟩, ?_⟩)
    exact trivial
  · refine ⟨?_, ?_, ?_, ?_, ?_, ?_, ?_, ?_, ?_, ?_, ?_, ?_, trivial⟩
    · intro u w_ hc hd K hK -- 33
      clear hd
      go_simp
      exact hK.out (.slice (some ⟨b, off, none⟩) n c) w_ (Chg.refl _ _) rfl
    · intro u w_ hc hd K hK -- 34
      clear hd
      go_simp
      exact hK.out (.int .i64 (S : Int)) w_ (Chg.refl _ _) rfl
    · intro u w_ hc hd K hK -- 35
      have h34 : (Fact.val (.int .i64 (S : Int))).holds (u 34) w_ := hd.get 1 (by kernel_rfl)
      simp only [Fact.holds] at h34
      clear hd
      simp only [h34] at hK
      go_simp
      exact hK.out (.int .i64 (S4 : Int)) w_ (Chg.refl _ _) rfl
    · intro u w_ hc hd K hK -- 36
      clear hd
      go_simp
      exact hK.out (.int .i64 (S : Int)) w_ (Chg.refl _ _) rfl
    · intro u w_ hc hd K hK -- 37
      have h33 : (Fact.val (.slice (some ⟨b, off, none⟩) n c)).holds (u 33) w_ := hd.get 0 (by kernel_rfl)
      simp only [Fact.holds] at h33
      have h35 : (Fact.val (.int .i64 (S4 : Int))).holds (u 35) w_ := hd.get 2 (by kernel_rfl)
      simp only [Fact.holds] at h35
      have h36 : (Fact.val (.int .i64 (S : Int))).holds (u 36) w_ := hd.get 3 (by kernel_rfl)
      simp only [Fact.holds] at h36
      clear hd
      simp only [h33, h35, h36] at hK
      go_simp
      exact hK.out (.slice (cutZ (some ⟨b, off, none⟩) c S4 1) 4 (c - S4)) w_ (Chg.refl _ _) rfl
    · intro u w_ hc hd K hK -- 38
      have h37 : (Fact.val (.slice (cutZ (some ⟨b, off, none⟩) c S4 1) 4 (c - S4))).holds (u 37) w_ := hd.get 4 (by kernel_rfl)
      simp only [Fact.holds] at h37
      clear hd
      simp only [h37] at hK
      have hcv := Bk.conv8_here (Bk.row8_chg HT4.out hc)
      go_simp
      exact hK.out _ w_ (Chg.refl _ _) rfl
    · intro u w_ hc hd K hK -- 39
      clear hd
      go_simp
      exact hK.out (.slice (some ⟨b, off, none⟩) n c) w_ (Chg.refl _ _) rfl
    · intro u w_ hc hd K hK -- 40
      clear hd
      go_simp
      exact hK.out (.int .i64 (S : Int)) w_ (Chg.refl _ _) rfl
    · intro u w_ hc hd K hK -- 41
      have h40 : (Fact.val (.int .i64 (S : Int))).holds (u 40) w_ := hd.get 7 (by kernel_rfl)
      simp only [Fact.holds] at h40
      clear hd
      simp only [h40] at hK
      go_simp
      exact hK.out (.int .i64 (S4 : Int)) w_ (Chg.refl _ _) rfl
    · intro u w_ hc hd K hK -- 42
      have h39 : (Fact.val (.slice (some ⟨b, off, none⟩) n c)).holds (u 39) w_ := hd.get 6 (by kernel_rfl)
      simp only [Fact.holds] at h39
      have h41 : (Fact.val (.int .i64 (S4 : Int))).holds (u 41) w_ := hd.get 8 (by kernel_rfl)
      simp only [Fact.holds] at h41
      clear hd
      simp only [h39, h41] at hK
      go_simp
      exact hK.out (.slice (some ⟨b, off, none⟩) S4 c) w_ (Chg.refl _ _) rfl
    · intro u w_ hc hd K hK -- 43
      have h42 : (Fact.val (.slice (some ⟨b, off, none⟩) S4 c)).holds (u 42) w_ := hd.get 9 (by kernel_rfl)
      simp only [Fact.holds] at h42
      clear hd
      simp only [h42] at hK
      go_simp
      refine Calls.mono (rsum_any _ S4 c PR w_ (Bk.row8_chg HPR.out hc) HDP.out (by have := HS4.out; omega)) ?_
      rintro z w2 ⟨ov, rfl, hov, c2⟩
      obtain ⟨oa, oc, rfl⟩ := byO_form hov
      have hcl : (crc4 PR).length = 4 := low_len _ _
      rw [hcl]
      rw [hcl] at hov
      exact hK.out _ w2 c2 ⟨w2, ⟨oa, oc, rfl, (byO_row hov).1⟩, Chg.refl _ _⟩
    · intro u w_ hc hd K hK -- 44
      have h43 : (Fact.is (fun p ww => ∃ a cc, p = .slice a 4 cc ∧ Row8 ww a 4 cc (nums (crc4 PR)))).holds (u 43) w_ := hd.get 10 (by kernel_rfl)
      obtain ⟨q43, h43, p43⟩ := h43
      clear hd
      obtain ⟨a9, c9, e43, hr9⟩ := h43
      simp only [e43] at hK ⊢
      have hcv := Bk.conv8_here (Bk.row8_chg hr9 p43)
      go_simp
      exact hK.out _ w_ (Chg.refl _ _) rfl
  · intro u w7 hc hA K hK
    have h38 : (Fact.val (.string (strOfNums (nums T4)))).holds (u 38) w7 := hA.at 38 (by kernel_rfl)
    have h44 : (Fact.val (.string (strOfNums (nums (crc4 PR))))).holds (u 44) w7 := hA.at 44 (by kernel_rfl)
    simp only [Fact.holds] at h38 h44
    have HC7 : Hid (Chg (fun _ => False) w0 w7) := chg_then HCA.out hc
    have HB7 : Hid (w7.heap[w0.heap.size]? = some (.cells #[.int .i64 0, .int .i64 0, .slice none 0 0, .int .i64 0] 24 (0, 0))) := blk_keep HBA.out hc (fun f => f)
    clear hA hc x0' x1' z0 z1 z2 z3 hw35
    simp only [h38, h44] at hK ⊢
    clear h38 h44
    generalize u 33 = u33 at *
    go_simp
    refine hK.out _ _ ?_
    rw [HSN.out]
    by_cases k2 : T4 = crc4 PR
    rotate_left
    · have e2 : decide (T4 ≠ crc4 PR) = true := decide_eq_true k2
      have HG : Hid (Hd21.getH bs = (Hd21.zeroH, 3)) := by show _ = _; rw [HG1.out, if_pos k2]
      rw [e2]
      clear k2 e2 HG1
      go_wp2_with (refine wpList_store_row rfl 24 (.tmp 2) _ rfl w0.heap.size 24 _ #[.int .i64 0, .int .i64 0, .slice none 0 0, .int .i64 0] rfl rfl HB7.out infoHd4 rfl oneZ4 ?_)
      intro wz hbz hcz
      have HCZ : Hid (Chg (fun _ => False) w0 wz) := (Chg.trans HC7.out hcz (fun g e => .inr (by omega)))
      have HBZ : Hid _ := hbz
      clear hbz hcz
      go_wp2
      refine bodyPost_ret (res_row rfl _ _ w0.heap.size 24 #[.int .i64 0, .int .i64 0, .slice none 0 0, .int .i64 0] (0, 0) _ rfl HBZ.out Tryd.underlying24 rfl infoHd4) rfl ?_
      exact ⟨none, 0, 0, [], by rw [HG.out]; rfl, Of0.nil _ _, rfl, by rw [HG.out]; rfl, HCZ.out⟩
    have e2 : decide (T4 ≠ crc4 PR) = false := decide_eq_false (by simp [k2])
    have HG2 := HG1.out
    rw [if_neg (by simp [k2])] at HG2
    rw [e2]
    have x1 := HBC.out w7 HC7.out
    obtain ⟨q4, hq4⟩ : ∃ q, fl / 4 = q := ⟨_, rfl⟩
    obtain ⟨r16, hr16⟩ : ∃ r, q4 % 16 = r := ⟨_, rfl⟩
    have j1 : (fl : Int).tdiv 4 = (q4 : Int) := by rw [Int.tdiv_eq_ediv_of_nonneg (by omega)]; omega
    have j1' : (fl : Int) / 4 = (q4 : Int) := by omega
    have j2 : (q4 : Int).tmod 16 = (r16 : Int) := by rw [Int.tmod_eq_emod_of_nonneg (by omega)]; omega
    have j2' : (q4 : Int) % 16 = (r16 : Int) := by omega
    have jq : (q4 : Int) ≤ 63 := by omega
    have jr : (r16 : Int) ≤ 15 := by omega
    rw [hq4, hr16] at HG2
    have HG3 : Hid _ := HG2
    clear hq4 hr16 HG1 HG2 k2 e2
    by_cases k3 : r16 = 0
    rotate_left
    · have e3 : ((r16 : Int) != 0) = true := by simp; omega
      have HG : Hid (Hd21.getH bs = (Hd21.zeroH, 4)) := by show _ = _; rw [HG3.out, if_pos k3]
      clear k3 HG3
      go_wp2_with (refine wpList_store_row rfl 24 (.tmp 2) _ rfl w0.heap.size 24 _ #[.int .i64 0, .int .i64 0, .slice none 0 0, .int .i64 0] rfl rfl HB7.out infoHd4 rfl oneZ4 ?_)
      intro wz hbz hcz
      have HCZ : Hid (Chg (fun _ => False) w0 wz) := (Chg.trans HC7.out hcz (fun g e => .inr (by omega)))
      have HBZ : Hid _ := hbz
      clear hbz hcz
      go_wp2
      refine bodyPost_ret (res_row rfl _ _ w0.heap.size 24 #[.int .i64 0, .int .i64 0, .slice none 0 0, .int .i64 0] (0, 0) _ rfl HBZ.out Tryd.underlying24 rfl infoHd4) rfl ?_
      exact ⟨none, 0, 0, [], by rw [HG.out]; rfl, Of0.nil _ _, rfl, by rw [HG.out]; rfl, HCZ.out⟩
    have e3 : ((r16 : Int) != 0) = false := by simp; omega
    have HG4 : Hid (Hd21.getH bs = if stE fl R ≠ 0 then (Hd21.zeroH, 2) else if (GA fl R).2.2 ≠ 0 then (Hd21.zeroH, (GA fl R).2.2) else if ∃ x ∈ (GA fl R).2.1, x ≠ 0 then (Hd21.zeroH, 4) else if (Cn20.readF (GA fl R).1).2.2 ≠ 0 then (Hd21.zeroH, (Cn20.readF (GA fl R).1).2.2) else (⟨(st1 fl R).1, (st2 fl R).1, (GA fl R).1, S⟩, 0)) := by
      show _ = _
      rw [HG3.out, if_neg (by simpa using k3), getR_is]
      by_cases a1 : stE fl R = 0
      · by_cases a2 : (GA fl R).2.2 = 0
        · by_cases a3 : ∃ x ∈ (GA fl R).2.1, x ≠ 0
          · simp only [a1, a2, if_pos a3]; rfl
          · by_cases a4 : (Cn20.readF (GA fl R).1).2.2 = 0
            · simp only [a1, a2, if_neg a3, a4]; rfl
            · simp only [a1, a2, if_neg a3, if_pos a4, ne_eq, not_true_eq_false, if_false]
        · simp only [a1, if_pos a2, ne_eq, not_true_eq_false, if_false]
      · simp only [if_pos a1]; rfl
    clear k3 HG3
    go_upto_region 14 with fail
    obtain ⟨ra, hra⟩ : ∃ ra, cutZ (some ⟨b, off, none⟩) c 2 1 = ra := ⟨_, rfl⟩
    obtain ⟨rn, hrn⟩ : ∃ rn, S4 - 2 = rn := ⟨_, rfl⟩
    obtain ⟨rc, hrc⟩ : ∃ rc, c - 2 = rc := ⟨_, rfl⟩
    rw [hra, hrn, hrc] at HRR
    simp only [hra, hrn, hrc]
    have hrn2 : 2 ≤ rn := by omega
    have hrni : (rn : Int) ≤ 1018 := by omega
    have hrnc : rn ≤ rc := by omega
    obtain ⟨rb, ro, rfl, hrcs⟩ := row8_at (HRR.out w0 (Chg.refl _ _)) (by omega)
    have hrb : rb < w0.heap.size := by have h9 := World.block_lt_of_cell? _ _ (hrcs 0 (by omega)); exact h9
    have HRC : Hid (∀ i, i < rn → w0.cell? ⟨rb, ro + i, none⟩ = some (.int .u8 ((R.getD i 0 : Nat) : Int))) := hrcs
    have HRL : Hid (R.length = rn) := by have h9 := (HRR.out w0 (Chg.refl _ _)).1; rw [nums_len] at h9; exact h9
    have cB := chg_one w7 (.cells #[.int .i64 0, .int .i64 0, .slice none 0 0, .int .i64 (S : Int)] 24)
    have bB := heap_alloc_last w7 (.cells #[.int .i64 0, .int .i64 0, .slice none 0 0, .int .i64 (S : Int)] 24)
    have HC8 : Hid (Chg (fun _ => False) w0 (w7.alloc (.cells #[.int .i64 0, .int .i64 0, .slice none 0 0, .int .i64 (S : Int)] 24))) := chg_then HC7.out cB
    have HZ8 : Hid ((w7.alloc (.cells #[.int .i64 0, .int .i64 0, .slice none 0 0, .int .i64 (S : Int)] 24)).heap[w0.heap.size]? = some (.cells #[.int .i64 0, .int .i64 0, .slice none 0 0, .int .i64 0] 24 (0, 0))) := blk_keep HB7.out cB (fun f => f)
    have x1 := HBC.out _ HC8.out
    obtain ⟨Hb, hHb⟩ : ∃ Hb, w7.heap.size = Hb := ⟨_, rfl⟩
    rw [hHb] at bB ⊢
    have hAH : w0.heap.size < Hb := by rw [← hHb]; exact lt_of_blk HB7.out
    generalize w7.alloc (.cells #[.int .i64 0, .int .i64 0, .slice none 0 0, .int .i64 (S : Int)] 24) = w8 at *
    have HX : Hid _ := rsizes_any (some ⟨rb, ro, none⟩) rn rc R fl (by omega) Hb 0 0 (.slice none 0 0) (S : Int) w8 (HRR.out w8 HC8.out) HDR.out hrnc (by omega) bB (fun y _ e => by
      simp only [Option.some.injEq] at e
      subst e
      show rb ≠ Hb
      omega)
    have HAH : Hid (w0.heap.size < Hb ∧ rb < w0.heap.size) := ⟨hAH, hrb⟩
    have hn8 : (8 : Int) ≤ (n : Int) := by omega
    have hn8' : 8 ≤ n := by omega
    clear hra hrn hrc hrcs cB bB hHb HC7 HB7 HT4 HPR HDP HDT HSN hcut1 hcut2 hcut3 hS4n hS44 i1 i2 i3 hcc hrb hAH
    go_wp2_with fail
    refine Calls.mono HX.out ?_
    rintro z w9 ⟨k, p1, s1, rfl, hk, hst, hb9, c9⟩
    have HC9 : Hid (Chg (fun _ => False) w0 w9) := HC8.out.trans c9 (fun g e => .inr (by have := HAH.out; omega))
    have HZ9 : Hid (w9.heap[w0.heap.size]? = some (.cells #[.int .i64 0, .int .i64 0, .slice none 0 0, .int .i64 0] 24 (0, 0))) := blk_keep HZ8.out c9 (fun e => by have := HAH.out; omega)
    have HB9 : Hid (w9.heap[Hb]? = some (.cells #[.int .i64 p1, .int .i64 s1, .slice none 0 0, .int .i64 (S : Int)] 24 (0, 0))) := hb9
    have HST : Hid (stE fl R = 0 → R.drop k = (st2 fl R).2.1 ∧ p1 = (st1 fl R).1 ∧ s1 = (st2 fl R).1) := hst
    clear hb9 c9 hst HX x1 HZ8 HC8
    by_cases k4 : stE fl R = 0
    rotate_left
    · replace k4 : stE fl R = 2 := (stE_is fl R).resolve_left k4
      have HG : Hid (Hd21.getH bs = (Hd21.zeroH, 2)) := by show _ = _; rw [HG4.out, if_pos (by rw [k4]; decide)]
      rw [k4]
      clear k4 HG4 HST
      go_wp2_with (refine wpList_store_row rfl 24 (.tmp 2) _ rfl w0.heap.size 24 _ #[.int .i64 0, .int .i64 0, .slice none 0 0, .int .i64 0] rfl rfl HZ9.out infoHd4 rfl oneZ4 ?_)
      intro wz hbz hcz
      have HCZ : Hid (Chg (fun _ => False) w0 wz) := (Chg.trans HC9.out hcz (fun g e => .inr (by omega)))
      have HBZ : Hid _ := hbz
      clear hbz hcz
      go_wp2
      refine bodyPost_ret (res_row rfl _ _ w0.heap.size 24 #[.int .i64 0, .int .i64 0, .slice none 0 0, .int .i64 0] (0, 0) _ rfl HBZ.out Tryd.underlying24 rfl infoHd4) rfl ?_
      exact ⟨none, 0, 0, [], by rw [HG.out]; rfl, Of0.nil _ _, rfl, by rw [HG.out]; rfl, HCZ.out⟩
    rw [k4]
    have HST2 : Hid (R.drop k = (st2 fl R).2.1 ∧ p1 = (st1 fl R).1 ∧ s1 = (st2 fl R).1) := HST.out k4
    have HG5 : Hid (Hd21.getH bs = if (GA fl R).2.2 ≠ 0 then (Hd21.zeroH, (GA fl R).2.2) else if ∃ x ∈ (GA fl R).2.1, x ≠ 0 then (Hd21.zeroH, 4) else if (Cn20.readF (GA fl R).1).2.2 ≠ 0 then (Hd21.zeroH, (Cn20.readF (GA fl R).1).2.2) else (⟨(st1 fl R).1, (st2 fl R).1, (GA fl R).1, S⟩, 0)) := by
      show _ = _
      rw [HG4.out, if_neg (by rw [k4]; simp)]
    clear k4 HG4 HST
    go_wp2_with fail
    obtain ⟨r4, hr4⟩ : ∃ r, fl % 4 = r := ⟨_, rfl⟩
    have j4 : (fl : Int).tmod 4 = (r4 : Int) := by rw [Int.tmod_eq_emod_of_nonneg (by omega)]; omega
    have j4' : (fl : Int) % 4 = (r4 : Int) := by omega
    have jr4 : (r4 : Int) ≤ 3 := by omega
    have HGA : Hid (GA fl R = Hd21.getAll (r4 + 1) (R.drop k)) := by show _ = _; rw [HST2.out.1]; unfold GA; rw [hr4]
    obtain ⟨G, hG⟩ : ∃ G, GA fl R = G := ⟨_, rfl⟩
    rw [hG] at HGA HG5
    have HOf9 : Hid (Of0 w0.heap.size w9 (.slice none 0 0) ([] : List FlV)) := Of0.nil _ _
    obtain ⟨jf, hjf, hf0, hf1, hf2⟩ := info_parts infoFl
    clear hr4 hG x1
    go_loopw [7, 9] (fun ka ia wq => ∃ (k' i : Nat) (la : Option Addr) (lc : Nat) (q : List FlV), ka = .int .i64 (k' : Int) ∧ ia = .int .i64 (i : Int) ∧ Hid (i ≤ r4 + 1) ∧ Hid (k' ≤ rn) ∧ Hid (wq.heap[Hb]? = some (.cells #[.int .i64 p1, .int .i64 s1, .slice la i lc, .int .i64 (S : Int)] 24 (0, 0))) ∧ Hid (Of0 w0.heap.size wq (.slice la i lc) q ∧ q.length = i) ∧ Hid (wq.heap[w0.heap.size]? = some (.cells #[.int .i64 0, .int .i64 0, .slice none 0 0, .int .i64 0] 24 (0, 0))) ∧ Hid (Chg (fun _ => False) w0 wq) ∧ Hid ((Hd21.getAll (r4 + 1 - i) (R.drop k')).2.2 = G.2.2 ∧ (G.2.2 = 0 → q.map FlV.f ++ (Hd21.getAll (r4 + 1 - i) (R.drop k')).1 = G.1 ∧ (Hd21.getAll (r4 + 1 - i) (R.drop k')).2.1 = G.2.1))) (fun _ ia _ => r4 + 1 - (intOf ia).toNat)
    case atStart => exact ⟨k, 0, none, 0, [], rfl, rfl, Nat.zero_le _, hk, HB9.out, ⟨HOf9.out, rfl⟩, HZ9.out, HC9.out, by rw [HGA.out]; exact ⟨rfl, fun _ => ⟨rfl, rfl⟩⟩⟩
    case round =>
      obtain ⟨k', i, la, lc, q, rfl, rfl, HI, HK, HBq, HOq, HZq, HCq, HGq⟩ := hrel
      have hk' : k' ≤ rn := HK.out
      have hk'i : (k' : Int) ≤ 1018 := by omega
      have hi5 : i ≤ r4 + 1 := HI.out
      have hii : (i : Int) ≤ 4 := by omega
      have x1 := HBC.out _ HCq.out
      by_cases hlt : i ≤ r4
      · have d5 : decide ((i : Int) ≤ (r4 : Int)) = true := decide_eq_true (by omega)
        have d5' : decide (i ≤ r4) = true := decide_eq_true hlt
        have hcut : ∀ ww, (Instr.sliceAt 25 (.slice (some ⟨rb, ro, none⟩) rn rc) (some (.int .i64 (k' : Int))) none none).run Tryd.prog ww = .ok (.slice (cutZ (some ⟨rb, ro, none⟩) rc k' 1) (rn - k') (rc - k')) ww := fun ww => run_cutZ_lo undBy elemBy sizeBy _ rn rc k' ww hk'
        have HX : Hid _ := rget20_any _ (rn - k') (rc - k') (R.drop k') wr (row8_cutZ (HRR.out wr HCq.out) hrnc hk') (dig_drop HDR.out k') (by omega) (by omega)
        have hgp := Cn20.get_pos (R.drop k')
        rw [List.length_drop, HRL.out] at hgp
        have hgb := fun e => Cn20.get_back (dig_drop HDR.out k') e
        have HGD : Hid _ := Cn20.get_dig (dig_drop HDR.out k')
        have hst := fun e => getAll_step (n := r4 - i) (bs := R.drop k') e
        have hbd := fun e => getAll_bad (n := r4 - i) (bs := R.drop k') e
        obtain ⟨fx, n', e', hgf⟩ : ∃ a b c, Cn20.getF (R.drop k') = (a, b, c) := ⟨_, _, _, rfl⟩
        rw [hgf] at HX hgp hgb HGD hst hbd
        simp only at HX hgp hgb HGD hst hbd
        obtain ⟨id, ps⟩ := fx
        simp only at HX hgb HGD
        rw [show r4 + 1 - i = r4 - i + 1 by omega] at HGq
        clear hgf
        by_cases k6 : e' = 0
        rotate_left
        · rcases hgp.2 with h | ⟨h1 | h2, _⟩
          · exact absurd h k6
          · subst h1
            have HG : Hid (Hd21.getH bs = (Hd21.zeroH, 2)) := by
              have h1 : G.2.2 = 2 := by rw [← HGq.out.1, hbd (by decide)]; rfl
              show _ = _
              rw [HG5.out, if_pos (by rw [h1]; decide), h1]
            clear hst hbd hgb HG5 HGq HGA
            go_wp2_with fail
            refine Calls.mono HX.out ?_
            rintro z w10 ⟨pv, rfl, hpv, c10⟩
            obtain ⟨pa, pc, rfl⟩ := byO_form hpv
            have cK := chg_one w10 (.cells #[.int .u64 (id : Int), .slice pa ps.length pc] 54)
            have HC12 : Hid (Chg (fun _ => False) w0 (w10.alloc (.cells #[.int .u64 (id : Int), .slice pa ps.length pc] 54))) := chg_then (chg_then HCq.out c10) cK
            have HZ12 : Hid ((w10.alloc (.cells #[.int .u64 (id : Int), .slice pa ps.length pc] 54)).heap[w0.heap.size]? = some (.cells #[.int .i64 0, .int .i64 0, .slice none 0 0, .int .i64 0] 24 (0, 0))) := blk_keep HZq.out (chg_then c10 cK) (fun f => f)
            clear cK c10 hpv HX
            go_wp2_with (refine wpList_store_row rfl 24 (.tmp 2) _ rfl w0.heap.size 24 _ #[.int .i64 0, .int .i64 0, .slice none 0 0, .int .i64 0] rfl rfl HZ12.out infoHd4 rfl oneZ4 ?_)
            intro wz hbz hcz
            have HCZ : Hid (Chg (fun _ => False) w0 wz) := (Chg.trans HC12.out hcz (fun g e => .inr (by omega)))
            have HBZ : Hid _ := hbz
            clear hbz hcz
            go_wp2
            refine bodyPost_ret (res_row rfl _ _ w0.heap.size 24 #[.int .i64 0, .int .i64 0, .slice none 0 0, .int .i64 0] (0, 0) _ rfl HBZ.out Tryd.underlying24 rfl infoHd4) rfl ?_
            exact ⟨none, 0, 0, [], by rw [HG.out]; rfl, Of0.nil _ _, rfl, by rw [HG.out]; rfl, HCZ.out⟩
          · subst h2
            have HG : Hid (Hd21.getH bs = (Hd21.zeroH, 2)) := by
              have h1 : G.2.2 = 2 := by rw [← HGq.out.1, hbd (by decide)]; rfl
              show _ = _
              rw [HG5.out, if_pos (by rw [h1]; decide), h1]
            clear hst hbd hgb HG5 HGq HGA
            go_wp2_with fail
            refine Calls.mono HX.out ?_
            rintro z w10 ⟨pv, rfl, hpv, c10⟩
            obtain ⟨pa, pc, rfl⟩ := byO_form hpv
            have cK := chg_one w10 (.cells #[.int .u64 (id : Int), .slice pa ps.length pc] 54)
            have HC12 : Hid (Chg (fun _ => False) w0 (w10.alloc (.cells #[.int .u64 (id : Int), .slice pa ps.length pc] 54))) := chg_then (chg_then HCq.out c10) cK
            have HZ12 : Hid ((w10.alloc (.cells #[.int .u64 (id : Int), .slice pa ps.length pc] 54)).heap[w0.heap.size]? = some (.cells #[.int .i64 0, .int .i64 0, .slice none 0 0, .int .i64 0] 24 (0, 0))) := blk_keep HZq.out (chg_then c10 cK) (fun f => f)
            clear cK c10 hpv HX
            go_wp2_with (refine wpList_store_row rfl 24 (.tmp 2) _ rfl w0.heap.size 24 _ #[.int .i64 0, .int .i64 0, .slice none 0 0, .int .i64 0] rfl rfl HZ12.out infoHd4 rfl oneZ4 ?_)
            intro wz hbz hcz
            have HCZ : Hid (Chg (fun _ => False) w0 wz) := (Chg.trans HC12.out hcz (fun g e => .inr (by omega)))
            have HBZ : Hid _ := hbz
            clear hbz hcz
            go_wp2
            refine bodyPost_ret (res_row rfl _ _ w0.heap.size 24 #[.int .i64 0, .int .i64 0, .slice none 0 0, .int .i64 0] (0, 0) _ rfl HBZ.out Tryd.underlying24 rfl infoHd4) rfl ?_
            exact ⟨none, 0, 0, [], by rw [HG.out]; rfl, Of0.nil _ _, rfl, by rw [HG.out]; rfl, HCZ.out⟩
        · subst k6
          have HGN : Hid (r4 + 1 - (i + 1) = r4 - i) := by show _ = _; omega
          have HST6 : Hid ((Hd21.getAll (r4 - i) (R.drop (k' + n'))).2.2 = G.2.2 ∧ (G.2.2 = 0 → (q.map FlV.f ++ [⟨id, ps⟩]) ++ (Hd21.getAll (r4 - i) (R.drop (k' + n'))).1 = G.1 ∧ (Hd21.getAll (r4 - i) (R.drop (k' + n'))).2.1 = G.2.1)) := by
            have h1 := hst rfl
            rw [List.drop_drop] at h1
            refine ⟨by rw [← h1.1]; exact HGq.out.1, fun g0 => ?_⟩
            have h2 := h1.2 (by rw [HGq.out.1]; exact g0)
            have h3 := HGq.out.2 g0
            rw [h2.1, h2.2] at h3
            exact ⟨by rw [← h3.1]; simp, h3.2⟩
          have hid : id ≤ 9223372036854775807 := (hgb rfl).2.1
          have hpl : ps.length ≤ n' := (hgb rfl).2.2
          have hn'1 : n' ≤ rn - k' := hgp.1
          have hn'i : (n' : Int) ≤ 1018 := by omega
          have hkn : (k' : Int) + (n' : Int) ≤ 1018 := by omega
          have HKN : Hid (k' + n' ≤ rn) := by show _ ≤ _; omega
          obtain ⟨pn, hpn⟩ : ∃ pn, ps.length = pn := ⟨_, rfl⟩
          have HPN : Hid (ps.length = pn) := hpn
          rw [hpn] at hpl
          have HID : Hid (id < 18446744073709551616 ∧ pn ≤ 140737488351232) := ⟨by omega, by omega⟩
          clear hst hbd hgb hgp HGq hpn hn'1 hid
          go_wp2_with fail
          refine Calls.mono HX.out ?_
          rintro z w10 ⟨pv, rfl, hpv, c10⟩
          obtain ⟨pa, pc, rfl⟩ := byO_form hpv
          rw [HPN.out] at hpv ⊢
          have cK := chg_one w10 (.cells #[.int .u64 (id : Int), .slice pa pn pc] 54)
          have bK := heap_alloc_last w10 (.cells #[.int .u64 (id : Int), .slice pa pn pc] 54)
          have m0 := cell0 bK
          have m1 := cell1 bK
          have hbq := blk_keep HBq.out (chg_then c10 cK) (fun f => f)
          obtain ⟨_, _, g2, _⟩ := cells4h hbq
          have HBq2 : Hid ((w10.alloc (.cells #[.int .u64 (id : Int), .slice pa pn pc] 54)).heap[Hb]? = some (.cells #[.int .i64 p1, .int .i64 s1, .slice la i lc, .int .i64 (S : Int)] 24 (0, 0))) := hbq
          have HZ12 : Hid ((w10.alloc (.cells #[.int .u64 (id : Int), .slice pa pn pc] 54)).heap[w0.heap.size]? = some (.cells #[.int .i64 0, .int .i64 0, .slice none 0 0, .int .i64 0] 24 (0, 0))) := blk_keep HZq.out (chg_then c10 cK) (fun f => f)
          have HC12 : Hid (Chg (fun _ => False) w0 (w10.alloc (.cells #[.int .u64 (id : Int), .slice pa pn pc] 54))) := chg_then (chg_then HCq.out c10) cK
          have HO12 : Hid (Of0 w0.heap.size (w10.alloc (.cells #[.int .u64 (id : Int), .slice pa pn pc] 54)) (.slice la i lc) q) := HOq.out.1.new (chg_then c10 cK)
          have hpv0 : ByO w10 w0.heap.size (.slice pa pn pc) ps := owns_base hpv HCq.out.size
          have HPV : Hid (ByO (w10.alloc (.cells #[.int .u64 (id : Int), .slice pa pn pc] 54)) w0.heap.size (.slice pa pn pc) ps) := hpv0.new cK
          clear cK bK hbq c10 hpv hpv0 HX
          go_upto_region 25 with fail
          generalize w10.alloc (.cells #[.int .u64 (id : Int), .slice pa pn pc] 54) = w11 at *
          have cL := chg_one w11 (.cells #[.int .u64 (id : Int), .slice pa pn pc] 54)
          have HO13 : Hid (Of0 w0.heap.size (w11.alloc (.cells #[.int .u64 (id : Int), .slice pa pn pc] 54)) (.slice la i lc) q) := HO12.out.new cL
          have hown9 : (w11.alloc (.cells #[.int .u64 (id : Int), .slice pa pn pc] 54)).ownsRow w0.heap.size 54 2 (.slice la i lc) i (flcs q) := by
            have h1 := HO13.out.own
            unfold FlO at h1
            rw [HOq.out.2] at h1
            exact h1
          have hsrc9 : From (w11.alloc (.cells #[.int .u64 (id : Int), .slice pa pn pc] 54)) (some ⟨w11.heap.size, 0, none⟩) 1 1 2 (flcs [⟨id, pa, pn, pc, ps⟩]) := from_fl w11 ⟨id, pa, pn, pc, ps⟩ 54
          have hone9 := flcs_cell [⟨id, pa, pn, pc, ps⟩]
          have hBs9 : w0.heap.size ≤ (w11.alloc (.cells #[.int .u64 (id : Int), .slice pa pn pc] 54)).heap.size := (chg_then HC12.out cL).size
          have HPV2 : Hid (ByO (w11.alloc (.cells #[.int .u64 (id : Int), .slice pa pn pc] 54)) w0.heap.size (.slice pa pn pc) ps) := HPV.out.new cL
          have HBq3 : Hid ((w11.alloc (.cells #[.int .u64 (id : Int), .slice pa pn pc] 54)).heap[Hb]? = some (.cells #[.int .i64 p1, .int .i64 s1, .slice la i lc, .int .i64 (S : Int)] 24 (0, 0))) := blk_keep HBq2.out cL (fun f => f)
          have HZ13 : Hid ((w11.alloc (.cells #[.int .u64 (id : Int), .slice pa pn pc] 54)).heap[w0.heap.size]? = some (.cells #[.int .i64 0, .int .i64 0, .slice none 0 0, .int .i64 0] 24 (0, 0))) := blk_keep HZ12.out cL (fun f => f)
          have HC13 : Hid (Chg (fun _ => False) w0 (w11.alloc (.cells #[.int .u64 (id : Int), .slice pa pn pc] 54))) := chg_then HC12.out cL
          clear cL HO12 HPV HBq2 HZ12 HC12
          go_wp2_with (at_builtin; refine wpList_append_moved rfl _ _ 22 rfl w0.heap.size 54 jf (.agg #[.int .u64 0, .slice none 0 0]) 2 32 Tryd.underlying22 hjf hf0 hf1 hf2 rfl (by decide) _ i (flcs q) rfl (some ⟨w11.heap.size, 0, none⟩) 1 1 rfl (flcs [⟨id, pa, pn, pc, ps⟩]) ?k1 ?l1 ?m1 ?n1 ?o1 ?p1 ?_)
          case k1 => exact hown9
          case l1 => exact hsrc9
          case m1 => exact hone9
          case n1 => unfold maxLen; omega
          case o1 => omega
          case p1 => exact hBs9
          intro v14 w14 ho14 hg14 hm14
          have hC14 : Chg (fun g => (Value.slice la i lc).ownBlock = some g) _ w14 := (Chg.refl _ _).grown hg14 (fun g e => .inl e)
          have HO14 : Hid (Of0 w0.heap.size w14 v14 (q ++ [⟨id, pa, pn, pc, ps⟩])) := HO13.out.push (x := ⟨id, pa, pn, pc, ps⟩) ⟨HPV2.out, HID.out.1, HGD.out, by have := HID.out.2; show pn ≤ _; omega⟩ (by rw [HOq.out.2]) ho14 hg14
          have hb14 := blk_keep HBq3.out hC14 (HO13.out.neH HBq3.out)
          have hz14 := blk_keep HZ13.out hC14 (HO13.out.neH HZ13.out)
          have HC14 : Hid (Chg (fun _ => False) w0 w14) := HC13.out.trans hC14 (fun g e => .inr (HO13.out.own.lt g e).1)
          obtain ⟨a14, c14, hv14⟩ := formF ho14
          subst hv14
          have HB14 : Hid (w14.heap[Hb]? = some (.cells #[.int .i64 p1, .int .i64 s1, .slice la i lc, .int .i64 (S : Int)] 24 (0, 0))) := hb14
          obtain ⟨_, _, g4, _⟩ := cells4h hb14
          have f4 := free4 hb14 2
          have hb15 := set4_2 (u := .slice a14 (i + 1) c14) hb14
          have hC15 : Chg (fun g => g = Hb) w14 (w14.setCell ⟨Hb, 2, none⟩ (.slice a14 (i + 1) c14)) := Chg.setCell (S := fun g => g = Hb) (Chg.refl _ w14) (p := ⟨Hb, 2, none⟩) (.inl rfl) _
          have HB15 : Hid _ := hb15
          have HO15 : Hid (Of0 w0.heap.size (w14.setCell ⟨Hb, 2, none⟩ (.slice a14 (i + 1) c14)) (.slice a14 (i + 1) c14) (q ++ [⟨id, pa, pn, pc, ps⟩])) := HO14.out.keepH hC15 hb14
          have HZ15 : Hid ((w14.setCell ⟨Hb, 2, none⟩ (.slice a14 (i + 1) c14)).heap[w0.heap.size]? = some (.cells #[.int .i64 0, .int .i64 0, .slice none 0 0, .int .i64 0] 24 (0, 0))) := blk_keep hz14 hC15 (fun e => by have := HAH.out.1; omega)
          have HC15 : Hid (Chg (fun _ => False) w0 (w14.setCell ⟨Hb, 2, none⟩ (.slice a14 (i + 1) c14))) := HC14.out.trans hC15 (fun g e => .inr (by have := HAH.out.1; omega))
          clear ho14 hg14 hm14 hC14 hb14 hz14 hb15 hC15 hown9 hsrc9 hone9 hBs9 HPV2 HBq3 HZ13 HC13 HO13
          go_wp2
          go_roundw
          case rel => exact ⟨k' + n', i + 1, a14, c14, q ++ [⟨id, pa, pn, pc, ps⟩], by push_cast; rfl, by go_num, by show _ ≤ _; omega, HKN.out, HB15.out, ⟨HO15.out, by rw [List.length_append, HOq.out.2]; rfl⟩, HZ15.out, HC15.out, by rw [HGN.out, List.map_append]; exact HST6.out⟩
          case measure => simp [intOf]; omega
      · have d5 : decide ((i : Int) ≤ (r4 : Int)) = false := decide_eq_false (by omega)
        have d5' : decide (i ≤ r4) = false := decide_eq_false hlt
        have him : r4 + 1 - i = 0 := by omega
        have hgq := HGq.out
        rw [him] at hgq
        have hG0 : G.2.2 = 0 := hgq.1.symm
        have HGF : Hid (q.map FlV.f = G.1 ∧ R.drop k' = G.2.1) := by
          have h1 := hgq.2 hG0
          refine ⟨by rw [← h1.1]; exact (List.append_nil _).symm, ?_⟩
          rw [← h1.2]
          rfl
        have HG6 : Hid (Hd21.getH bs = if ∃ x ∈ G.2.1, x ≠ 0 then (Hd21.zeroH, 4) else if (Cn20.readF G.1).2.2 ≠ 0 then (Hd21.zeroH, (Cn20.readF G.1).2.2) else (⟨(st1 fl R).1, (st2 fl R).1, G.1, S⟩, 0)) := by
          show _ = _
          rw [HG5.out, if_neg (by rw [hG0]; simp)]
        have hw0 : wr = wr := rfl
        clear hgq him hG0 HG5 HGq HGA hw0 hlt
        go_wp2_with fail
        go_loopw [7] (fun ka wq => ∃ k2 : Nat, ka = .int .i64 (k2 : Int) ∧ Hid (k' ≤ k2 ∧ k2 ≤ rn ∧ ∀ j, k' ≤ j → j < k2 → R.getD j 0 = 0) ∧ Hid (Chg (fun _ => False) wr wq)) (fun ka _ => rn - (intOf ka).toNat)
        case atStart => exact ⟨k', rfl, ⟨Nat.le_refl _, hk', fun j h1 h2 => by omega⟩, Chg.refl _ _⟩
        case round =>
          obtain ⟨k2, rfl, HK2, HCz⟩ := hrel
          have hk2 : k2 ≤ rn := HK2.out.2.1
          have hk2i : (k2 : Int) ≤ 1018 := by omega
          have HB20 : Hid _ := blk_keep HBq.out HCz.out (fun f => f)
          have HZ20 : Hid _ := blk_keep HZq.out HCz.out (fun f => f)
          have HO20 : Hid _ := HOq.out.1.new HCz.out
          have HC20 : Hid (Chg (fun _ => False) w0 wr) := chg_then HCq.out HCz.out
          by_cases hlt : k2 < rn
          · have d6 : decide ((k2 : Int) < (rn : Int)) = true := decide_eq_true (by omega)
            have d6' : decide (k2 < rn) = true := decide_eq_true hlt
            have xk := cell_chg (HRC.out k2 hlt) HC20.out
            obtain ⟨xv, hxv⟩ : ∃ xv, R.getD k2 0 = xv := ⟨_, rfl⟩
            rw [hxv] at xk
            by_cases k7 : xv = 0
            · have e7 : ((xv : Int) != 0) = false := by simp; omega
              have HK3 : Hid (k' ≤ k2 + 1 ∧ k2 + 1 ≤ rn ∧ ∀ j, k' ≤ j → j < k2 + 1 → R.getD j 0 = 0) := by
                refine ⟨by have := HK2.out.1; omega, by omega, fun j h1 h2 => ?_⟩
                by_cases e : j = k2
                · rw [e, hxv, k7]
                · exact HK2.out.2.2 j h1 (by omega)
              clear hxv k7
              go_wp2
              go_roundw
              case rel => exact ⟨k2 + 1, by go_num, HK3.out, HCz.out⟩
              case measure => simp [intOf]; omega
            · have e7 : ((xv : Int) != 0) = true := by simp; omega
              have HG : Hid (Hd21.getH bs = (Hd21.zeroH, 4)) := by
                show _ = _
                rw [HG6.out, if_pos]
                refine ⟨xv, ?_, k7⟩
                rw [← HGF.out.2]
                have hkR : k2 < R.length := by rw [HRL.out]; exact hlt
                have h1 : R.getD k2 0 = R[k2] := by rw [List.getD_eq_getElem?_getD, List.getElem?_eq_getElem hkR]; rfl
                rw [← hxv, h1]
                have h2 : k' ≤ k2 := HK2.out.1
                rw [List.mem_drop_iff_getElem]
                exact ⟨k2 - k', by omega, by congr 1; omega⟩
              clear hxv k7 HG6
              go_wp2_with (refine wpList_store_row rfl 24 (.tmp 2) _ rfl w0.heap.size 24 _ #[.int .i64 0, .int .i64 0, .slice none 0 0, .int .i64 0] rfl rfl HZ20.out infoHd4 rfl oneZ4 ?_)
              intro wz hbz hcz
              have HCZ : Hid (Chg (fun _ => False) w0 wz) := (Chg.trans HC20.out hcz (fun g e => .inr (by omega)))
              have HBZ : Hid _ := hbz
              clear hbz hcz
              go_wp2
              refine bodyPost_ret (res_row rfl _ _ w0.heap.size 24 #[.int .i64 0, .int .i64 0, .slice none 0 0, .int .i64 0] (0, 0) _ rfl HBZ.out Tryd.underlying24 rfl infoHd4) rfl ?_
              exact ⟨none, 0, 0, [], by rw [HG.out]; rfl, Of0.nil _ _, rfl, by rw [HG.out]; rfl, HCZ.out⟩
          · have d6 : decide ((k2 : Int) < (rn : Int)) = false := decide_eq_false (by omega)
            have d6' : decide (k2 < rn) = false := decide_eq_false hlt
            have HG7 : Hid (Hd21.getH bs = if (Cn20.readF G.1).2.2 ≠ 0 then (Hd21.zeroH, (Cn20.readF G.1).2.2) else (⟨(st1 fl R).1, (st2 fl R).1, G.1, S⟩, 0)) := by
              show _ = _
              rw [HG6.out, if_neg]
              rintro ⟨x, hx, hx0⟩
              rw [← HGF.out.2, List.mem_drop_iff_getElem] at hx
              obtain ⟨j, hj, rfl⟩ := hx
              rw [HRL.out] at hj
              have h1 := HK2.out.2.2 (k' + j) (by omega) (by omega)
              rw [List.getD_eq_getElem?_getD, List.getElem?_eq_getElem (by rw [HRL.out]; omega)] at h1
              exact hx0 (by simpa using h1)
            have HRD : Hid _ := rread20_any la i lc q wr HO20.out.L HOq.out.2 (by omega)
            rw [HGF.out.1] at HRD
            obtain ⟨_, _, g6, _⟩ := cells4h HB20.out
            obtain ⟨RD1, RD2, RE, hRD⟩ : ∃ a b c, Cn20.readF G.1 = (a, b, c) := ⟨_, _, _, rfl⟩
            rw [hRD] at HRD HG7
            simp only at HRD HG7
            clear hRD hlt HG6
            go_wp2_with fail
            refine Calls.mono HRD.out ?_
            rintro z w21 ⟨rfl, c21⟩
            have HB21 : Hid _ := blk_keep HB20.out c21 (fun f => f)
            have HZ21 : Hid _ := blk_keep HZ20.out c21 (fun f => f)
            have HO21 : Hid _ := HO20.out.new c21
            have HC21 : Hid (Chg (fun _ => False) w0 w21) := chg_then HC20.out c21
            clear c21 g6 HRD
            by_cases k8 : RE = 0
            rotate_left
            · have e8 : (RE != 0) = true := by simpa using k8
              have HG : Hid (Hd21.getH bs = (Hd21.zeroH, RE)) := by show _ = _; rw [HG7.out, if_pos k8]
              clear k8 HG7
              go_wp2_with (refine wpList_store_row rfl 24 (.tmp 2) _ rfl w0.heap.size 24 _ #[.int .i64 0, .int .i64 0, .slice none 0 0, .int .i64 0] rfl rfl HZ21.out infoHd4 rfl oneZ4 ?_)
              intro wz hbz hcz
              have HCZ : Hid (Chg (fun _ => False) w0 wz) := (Chg.trans HC21.out hcz (fun g e => .inr (by omega)))
              have HBZ : Hid _ := hbz
              clear hbz hcz
              go_wp2
              refine bodyPost_ret (res_row rfl _ _ w0.heap.size 24 #[.int .i64 0, .int .i64 0, .slice none 0 0, .int .i64 0] (0, 0) _ rfl HBZ.out Tryd.underlying24 rfl infoHd4) rfl ?_
              exact ⟨none, 0, 0, [], by rw [HG.out]; rfl, Of0.nil _ _, rfl, by rw [HG.out]; rfl, HCZ.out⟩
            subst k8
            have HG : Hid (Hd21.getH bs = (⟨p1, s1, G.1, S⟩, 0)) := by show _ = _; rw [HG7.out, if_neg (by simp), HST2.out.2.1, HST2.out.2.2]
            obtain ⟨t0, t1, t2, t3⟩ := cells4h HB21.out
            clear HG7
            go_wp2_with (refine wpList_store_row rfl 24 (.tmp 2) _ rfl w0.heap.size 24 _ #[.int .i64 p1, .int .i64 s1, .slice la i lc, .int .i64 (S : Int)] rfl rfl HZ21.out infoHd4 rfl (one4 _ _ _ _ _ _) ?_)
            intro wz hbz hcz
            have HCZ : Hid (Chg (fun _ => False) w0 wz) := (Chg.trans HC21.out hcz (fun g e => .inr (by omega)))
            have HBZ : Hid _ := hbz
            have HOZ : Hid _ := HO21.out.keepH hcz HZ21.out
            clear hbz hcz
            go_wp2
            refine bodyPost_ret (res_row rfl _ _ w0.heap.size 24 #[.int .i64 p1, .int .i64 s1, .slice la i lc, .int .i64 (S : Int)] (0, 0) _ rfl HBZ.out Tryd.underlying24 rfl infoHd4) rfl ?_
            exact ⟨la, i, lc, q, by rw [HG.out]; rfl, HOZ.out, HOq.out.2, by rw [HG.out]; exact HGF.out.1, HCZ.out⟩
end Go.Proofs.YtkncbanodpfccaaDoor
