/- The program's Get of headers; of no statement by itself. -/
import Derived.Test.YtkncbanodpfccaaDoorHef
import Derived.Defers
import Derived.Recover
namespace Go.Proofs.YtkncbanodpfccaaDoor
open Go.RowKit
open St12
set_option linter.unusedVariables false
set_option linter.unusedSimpArgs false
theorem wp_store_rowH {P : Program} {op : Oper} {a : Act} {w : World} {K : Act → World → Prop} {Q : Exit → Act → World → Prop} (ty : TypeId) (x y : Operand) (ho : op.op = .store ty x y)
    (g : Nat) (t : TypeId) (old cells : Array Value) (hx : a.eval x = .pointer (some ⟨g, 0, none⟩)) (hy : a.eval y = .agg cells) (hg : w.heap[g]? = some (.cells old t (0, 0)))
    (hi : (P.info? ty).map (·.size) = some cells.size) (hs : old.size = cells.size) (h1 : cells.all (·.oneCell') = true)
    (h : ∀ w', w'.heap[g]? = some (.cells cells t (0, 0)) → Chg (fun k => k = g) w w' → K (a.put op.dst undef) w') : Oper.wp P op a w K Q := by
  unfold Oper.wp execOp
  simp only [ho, hx, hy, Instr.storeAt, Instr.sureAddr, Sem.run_bind, Sem.run_pure, Result.andThen_ok, run_storeVar_row w g t ty old cells hg hi hs h1]
  exact h _ (setRow_heap w g old cells t (0, 0) hg) ⟨rfl, rfl, rfl, by simp [World.setRow], fun k _ hk => setRow_other w g k cells hk⟩
theorem fr00H {w : World} {a : Nat} {x : Value} {t : TypeId} (h : w.heap[a]? = some (.cells #[x] t (0, 0))) : w.frozen? ⟨a, 0, none⟩ = false := by simp [World.frozen?, h]
theorem set1H {w : World} {a : Nat} {x u : Value} {t : TypeId} (h : w.heap[a]? = some (.cells #[x] t (0, 0))) : (w.setCell ⟨a, 0, none⟩ u).heap[a]? = some (.cells #[u] t (0, 0)) := by
  have := blk_setkH (l := [x]) h 0 u
  exact this
/-- The results' cells. -/
structure GtC (N : Nat) (w0 : World) (hc : Array Value) (e : Int) (w : World) : Prop where
  hd : w.heap[N]? = some (.cells hc 24 (0, 0))
  er : w.heap[N + 1]? = some (.cells #[.int .i64 e] 26 (0, 0))
  ch : Chg (fun _ => False) w0 w
  sz : N + 2 ≤ w.heap.size
  lo : w0.heap.size = N
theorem GtC.go {N : Nat} {w0 w w' : World} {hc : Array Value} {e : Int} {S : Nat → Prop} (h : GtC N w0 hc e w) (c : Chg S w w') (hS : ∀ k, S k → N + 2 ≤ k) : GtC N w0 hc e w' :=
  ⟨blk_keep h.hd c (fun f => by have := hS _ f; omega), blk_keep h.er c (fun f => by have := hS _ f; omega), h.ch.trans c (fun k f => .inr (by have := hS _ f; have := h.lo; omega)), Nat.le_trans h.sz c.size, h.lo⟩
theorem GtC.new {N : Nat} {w0 w w' : World} {hc : Array Value} {e : Int} (h : GtC N w0 hc e w) (c : Chg (fun _ => False) w w') : GtC N w0 hc e w' := h.go c (fun _ f => f.elim)
theorem GtC.setE {N : Nat} {w0 w : World} {hc : Array Value} {e : Int} (h : GtC N w0 hc e w) (e2 : Int) : GtC N w0 hc e2 (w.setCell ⟨N + 1, 0, none⟩ (.int .i64 e2)) := by
  have c : Chg (fun z => z = N + 1) w (w.setCell ⟨N + 1, 0, none⟩ (.int .i64 e2)) := (Chg.refl (fun z => z = N + 1) w).setCell (p := ⟨N + 1, 0, none⟩) (.inl rfl) _
  exact ⟨blk_keep h.hd c (by omega), set1H h.er, h.ch.trans c (fun k f => .inr (by have := h.lo; omega)), Nat.le_trans h.sz c.size, h.lo⟩
theorem GtC.setR {N : Nat} {w0 w w' : World} {hc hc2 : Array Value} {e : Int} (h : GtC N w0 hc e w) (hb : w'.heap[N]? = some (.cells hc2 24 (0, 0))) (c : Chg (fun k => k = N) w w') : GtC N w0 hc2 e w' :=
  ⟨hb, blk_keep h.er c (by omega), h.ch.trans c (fun k f => .inr (by have := h.lo; omega)), Nat.le_trans h.sz c.size, h.lo⟩
theorem gtC_made (w0 : World) : GtC w0.heap.size w0 #[.int .i64 0, .int .i64 0, .slice none 0 0, .int .i64 0] 0 ((w0.alloc (.cells #[.int .i64 0, .int .i64 0, .slice none 0 0, .int .i64 0] 24)).alloc (.cells #[.int .i64 0] 26)) := by
  have b1 := heap_alloc_last w0 (.cells #[.int .i64 0, .int .i64 0, .slice none 0 0, .int .i64 0] 24)
  have b2 := heap_alloc_last (w0.alloc (.cells #[.int .i64 0, .int .i64 0, .slice none 0 0, .int .i64 0] 24)) (.cells #[.int .i64 0] 26)
  rw [World.size_alloc] at b2
  have k1 := chg_one (w0.alloc (.cells #[.int .i64 0, .int .i64 0, .slice none 0 0, .int .i64 0] 24)) (.cells #[.int .i64 0] 26)
  exact ⟨blk_keep b1 k1 (fun f => f), b2, chg_then (chg_one w0 _) k1, by rw [World.size_alloc, World.size_alloc]; omega, rfl⟩
set_option maxHeartbeats 1000000 in
set_option maxRecDepth 100000 in
theorem catch21_idle (p q : Value) (w : World) : CallsD Tryd.prog 25 #[p, q] .returning w fun e u' w' => e = .returned (.tuple #[]) ∧ u' = .returning ∧ w' = w := by
  refine callsD_of_wpS Tryd.func25 rfl fun c₀ cs hu => ?_
  apply wpS_seq
  apply wpS_region
  simp [wpOpsS, go_sem, recoverD, hu, Tryd.ntmps25, Exit.thenS]
  refine wpS_of_wp ?_
  go_wp2
  cases c₀
  simp_all [bodyPostS, results, Tryd.results25]
set_option maxHeartbeats 2000000 in
set_option maxRecDepth 100000 in
theorem catch21_gave (N : Nat) (w0 : World) (hc : Array Value) (hcs : hc.size = 4) (e0 e : Int) (w : World) (h : GtC N w0 hc e0 w) : CallsD Tryd.prog 25 #[.pointer (some ⟨N, 0, none⟩), .pointer (some ⟨N + 1, 0, none⟩)] (.panicking (gaveH e)) w fun x u' w' => x = .returned (.tuple #[]) ∧ u' = .panicking [{ v := .iface 26 (.int .i64 e), recovered := true }] ∧ GtC N w0 #[.int .i64 0, .int .i64 0, .slice none 0 0, .int .i64 0] e w' := by
  have HG : Hid (GtC N w0 hc e0 w) := h
  have HCS : Hid (hc.size = 4) := hcs
  clear h hcs
  refine callsD_of_wpS Tryd.func25 rfl fun c₀ cs hu => ?_
  apply wpS_seq
  apply wpS_region
  simp [wpOpsS, go_sem, recoverD, hu, Tryd.ntmps25, Exit.thenS, gaveH]
  refine wpS_of_wp ?_
  have ht : (#[Value.pointer (some ⟨N, 0, none⟩), Value.pointer (some ⟨N + 1, 0, none⟩)] ++ ((Array.replicate 7 undef).setIfInBounds 1 (Value.iface 26 (.int .i64 e))).setIfInBounds 0 (Value.iface 26 (.int .i64 e))) = #[.pointer (some ⟨N, 0, none⟩), .pointer (some ⟨N + 1, 0, none⟩), .iface 26 (.int .i64 e), .iface 26 (.int .i64 e), undef, undef, undef, undef, undef] := rfl
  rw [ht]
  clear ht hu
  go_wp2_with fail
  refine (reason21_any e _).mono ?_
  rintro x w9 ⟨rfl, rfl⟩
  go_wp2_with (refine wpList_store_row rfl 24 (.tmp 0) _ rfl N 24 _ #[.int .i64 0, .int .i64 0, .slice none 0 0, .int .i64 0] rfl rfl HG.out.hd infoHd4 HCS.out oneZ4 ?_)
  intro wz hbz hcz
  have HZ : Hid (GtC N w0 #[.int .i64 0, .int .i64 0, .slice none 0 0, .int .i64 0] e0 wz) := HG.out.setR hbz hcz
  clear hbz hcz
  have x7 := cell00 HZ.out.er
  have f7 := fr00H HZ.out.er
  have HF : Hid (GtC N w0 #[.int .i64 0, .int .i64 0, .slice none 0 0, .int .i64 0] e (wz.setCell ⟨N + 1, 0, none⟩ (.int .i64 e))) := HZ.out.setE e
  go_wp2
  exact ⟨rfl, _, rfl, _, results_none rfl _ _ _, rfl, rfl, HF.out⟩
theorem getH_is (bs : List Nat) : Hd21.getH bs = if frE bs ≠ 0 then (Hd21.zeroH, frE bs) else if hE (bs.getD 1 0) ((bs.take (Hd21.size bs - 4)).drop 2) ≠ 0 then (Hd21.zeroH, hE (bs.getD 1 0) ((bs.take (Hd21.size bs - 4)).drop 2)) else if (Cn20.readF (GA (bs.getD 1 0) ((bs.take (Hd21.size bs - 4)).drop 2)).1).2.2 ≠ 0 then (Hd21.zeroH, (Cn20.readF (GA (bs.getD 1 0) ((bs.take (Hd21.size bs - 4)).drop 2)).1).2.2) else (⟨(st1 (bs.getD 1 0) ((bs.take (Hd21.size bs - 4)).drop 2)).1, (st2 (bs.getD 1 0) ((bs.take (Hd21.size bs - 4)).drop 2)).1, (GA (bs.getD 1 0) ((bs.take (Hd21.size bs - 4)).drop 2)).1, Hd21.size bs⟩, 0) := by
  unfold Hd21.getH frE
  generalize bs.getD 1 0 = fl
  generalize (bs.take (Hd21.size bs - 4)).drop 2 = R
  by_cases h1 : bs.length = 0
  · rw [if_pos h1, if_pos h1, if_pos (by decide)]
  rw [if_neg h1, if_neg h1]
  by_cases h2 : bs.getD 0 0 = 0
  · rw [if_pos h2, if_pos h2, if_pos (by decide)]
  rw [if_neg h2, if_neg h2]
  by_cases h3 : bs.length < Hd21.size bs
  · rw [if_pos h3, if_pos h3, if_pos (by decide)]
  rw [if_neg h3, if_neg h3]
  by_cases h4 : (bs.drop (Hd21.size bs - 4)).take 4 ≠ crc4 (bs.take (Hd21.size bs - 4))
  · rw [if_pos h4, if_pos h4, if_pos (by decide)]
  rw [if_neg h4, if_neg h4]
  by_cases h5 : fl / 4 % 16 ≠ 0
  · rw [if_pos h5, if_pos h5, if_pos (by decide)]
  rw [if_neg h5, if_neg h5, if_neg (show ¬ ((0 : Int) ≠ 0) by decide), getR_is]
  unfold hE
  by_cases a1 : stE fl R = 0
  · by_cases a2 : (GA fl R).2.2 = 0
    · by_cases a3 : ∃ x ∈ (GA fl R).2.1, x ≠ 0
      · simp only [a1, a2, if_pos a3]; rfl
      · by_cases a4 : (Cn20.readF (GA fl R).1).2.2 = 0
        · simp only [a1, a2, if_neg a3, a4]; rfl
        · simp only [a1, a2, if_neg a3, if_pos a4, ne_eq, not_true_eq_false, if_false]
    · simp only [a1, if_pos a2, ne_eq, not_true_eq_false, if_false]
  · simp only [if_pos a1]; rfl
theorem frE_0 {bs : List Nat} (h : frE bs = 0) : bs.length ≠ 0 ∧ bs.getD 0 0 ≠ 0 ∧ Hd21.size bs ≤ bs.length := by
  unfold frE at h
  by_cases h1 : bs.length = 0
  · rw [if_pos h1] at h; omega
  rw [if_neg h1] at h
  by_cases h2 : bs.getD 0 0 = 0
  · rw [if_pos h2] at h; omega
  rw [if_neg h2] at h
  by_cases h3 : bs.length < Hd21.size bs
  · rw [if_pos h3] at h; omega
  exact ⟨h1, h2, by omega⟩
theorem getAll_lenH : ∀ (n : Nat) (bs : List Nat), (Hd21.getAll n bs).1.length ≤ n
  | 0, bs => by simp [Hd21.getAll]
  | n + 1, bs => by
    unfold Hd21.getAll
    split
    · simp
    · split
      · simp
      · have := getAll_lenH n (bs.drop (Cn20.getF bs).2.1)
        simpa using this
/-- The state inside the region that reads the room. -/
def GtJ (N : Nat) (w0 : World) (hc : Array Value) (fl : Nat) (R : List Nat) (k : Nat) (u18 u22 : Value) (w : World) : Prop :=
  GtC N w0 hc 0 w ∧
  (k = 1 → ∃ a g B, u18 = rmv a ∧ Wire.Rd B w a g (nums R) 0 ∧ N + 2 ≤ a) ∧
  (k = 2 → ∃ la i lc q, u22 = hdv (st1 fl R).1 (st2 fl R).1 (.slice la i lc) 0 ∧ Of0 (N + 2) w (.slice la i lc) q ∧ InjF q ∧ q.length = i ∧ i ≤ lc ∧ q.map FlV.f = (GA fl R).1 ∧ hE fl R = 0)
set_option maxHeartbeats 16000000 in
set_option maxRecDepth 100000 in
theorem get21_any (C : ChainSpec Vint.Tab) (ad : Option Addr) (n c : Nat) (bs : List Nat) (w0 : World) (hT : Vint.Tab w0 ∧ Cq.Tab w0) (h : Row8 w0 ad n c (nums bs)) (hd : Rc.Dig bs) (hc : n ≤ c) (hn : n ≤ 140737488355328) : Calls Tryd.prog 10 #[.slice ad n c] w0 fun e w' => ∃ fa fn fc l, e = .returned (.tuple #[hdv (Hd21.getH bs).1.pk (Hd21.getH bs).1.sz (.slice fa fn fc) (Hd21.getH bs).1.by_, .int .i64 (Hd21.getH bs).2]) ∧ Of0 w0.heap.size w' (.slice fa fn fc) l ∧ InjF l ∧ l.length = fn ∧ fn ≤ fc ∧ l.map FlV.f = (Hd21.getH bs).1.fs ∧ Chg (fun _ => False) w0 w' := by
  have hmf : ∀ (fn : Fn) (first cap : Array Value) (w : World), (Instr.makeFunc fn first cap).run Tryd.prog w = .ok (.func fn first cap) w := fun _ _ _ _ => rfl
  have HT : Hid (Vint.Tab w0 ∧ Cq.Tab w0) := hT
  have HB : Hid (Row8 w0 ad n c (nums bs)) := h
  have HD : Hid (Rc.Dig bs) := hd
  have hbl : bs.length = n := by have h9 := h.1; rw [nums_len] at h9; exact h9
  have HGI : Hid _ := getH_is bs
  have HM : Hid _ := gtC_made w0
  have HFR : Hid _ := front21_any ad n c bs ((w0.alloc (.cells #[.int .i64 0, .int .i64 0, .slice none 0 0, .int .i64 0] 24)).alloc (.cells #[.int .i64 0] 26)) (hT.2.new (gtC_made w0).ch) (Bk.row8_chg h (gtC_made w0).ch) hd hc hn
  have HN : Hid (n ≤ c ∧ n ≤ 140737488355328 ∧ bs.length = n) := ⟨hc, hn, hbl⟩
  have hni : (n : Int) ≤ 140737488355328 := by omega
  obtain ⟨N, hN⟩ : ∃ N, w0.heap.size = N := ⟨_, rfl⟩
  rw [hN] at HM
  have HNN : Hid (w0.heap.size = N) := hN
  clear hT h hd hc hn hbl
  go_enter_defers Tryd.func10, Tryd.ntmps10
  go_upto_region 1 with fail
  try rw [hN]
  generalize (w0.alloc (.cells #[.int .i64 0, .int .i64 0, .slice none 0 0, .int .i64 0] 24)).alloc (.cells #[.int .i64 0] 26) = w1 at *
  clear hN
  go_wp2_with fail
  refine Calls.mono HFR.out ?_
  rintro z w2 ⟨⟨he, rfl⟩ | ⟨he, rfl⟩, c2⟩
  · have HG : Hid (Hd21.getH bs = (Hd21.zeroH, frE bs)) := by show _ = _; rw [HGI.out, if_pos he]
    obtain ⟨E, hE9⟩ : ∃ E, frE bs = E := ⟨_, rfl⟩
    rw [hE9] at HG he ⊢
    have hz1 : (E != 0) = true := by simpa using he
    have hz2 : (E == 0) = false := by simpa using he
    have HM2 : Hid _ := HM.out.new c2
    have x7 := cell00 HM2.out.er
    have f7 := fr00H HM2.out.er
    have HE2 : Hid (GtC N w0 #[.int .i64 0, .int .i64 0, .slice none 0 0, .int .i64 0] E (w2.setCell ⟨N + 1, 0, none⟩ (.int .i64 E))) := HM2.out.setE E
    have x8 := cell00 HE2.out.er
    clear he c2 HM HFR hE9 HGI
    go_upto_region 3 with fail
    clear x7 f7 x8
    generalize w2.setCell ⟨N + 1, 0, none⟩ (.int .i64 E) = w3 at *
    refine wp_region_phaseQ (mk := fun u => #[_, _, _, _, _, _, _, _, _, _, _, _, _, _, u 14, u 15, _, _, _, _, _, _, _, _, _, _, _, _, _, _, _, _, _, _, _, _, _, _]) (G := lookG [(14, .agg #[.int .i64 0, .int .i64 0, .slice none 0 0, .int .i64 0]), (15, .int .i64 E)]) (J := fun qk u ww => GtC N w0 #[.int .i64 0, .int .i64 0, .slice none 0 0, .int .i64 0] E ww) [2] (fun i =>  1) ([]) (fun _ => undef) rfl (by kernel_rfl) 3 _ rfl rfl (by kernel_rfl) (by kernel_rfl) (by kernel_rfl) (by decide) ?_ ?_ ?_ (by kernel_rfl) ?_ ?_
    · repeat (refine ⟨fun _ _ => rfl, ?_⟩)
      exact trivial
    · exact fun q u u2 w _ h => h
    · exact HE2.out.new (Chg.refl _ _).drew
    · refine ⟨?_, ?_, ?_, trivial⟩
      · show StepRQ _ _ _ _ _ _ _ _ _ -- 14
        unfold StepRQ
        intro qn hq u w_ hj hd K hK
        clear hd
        clear hj
        go_simp
        exact hK.out _ rfl
      · show StepRQ _ _ _ _ _ _ _ _ _ -- 15
        unfold StepRQ
        intro qn hq u w_ hj hd K hK
        clear hd
        have x0 := cell00 hj.er
        clear hj
        go_simp
        exact hK.out _ rfl
      · show StepWQ _ _ _ _ _ _ _ _ _ -- #2
        unfold StepWQ
        intro u w_ hj hd K hK
        have h14 : u 14 = .agg #[.int .i64 0, .int .i64 0, .slice none 0 0, .int .i64 0] := hd.get 0 (by kernel_rfl)
        clear hd
        refine wp_store_rowH (a := ⟨_, _⟩) 24 (.tmp 2) (.tmp 14) (by rfl) N 24 _ #[.int .i64 0, .int .i64 0, .slice none 0 0, .int .i64 0] (by rfl) (by exact h14) hj.hd infoHd4 rfl oneZ4 ?_
        intro wz hbz hcz
        exact hK.out undef wz (hj.setR hbz hcz) trivial
    · intro u w7 hj hA K hK
      have e15 : u 15 = .int .i64 E := hA.at 15 (by kernel_rfl)
      have HJ : Hid _ := hj
      have x7 := cell00 HJ.out.er
      have f7 := fr00H HJ.out.er
      have HF : Hid (GtC N w0 #[.int .i64 0, .int .i64 0, .slice none 0 0, .int .i64 0] E (w7.setCell ⟨N + 1, 0, none⟩ (.int .i64 E))) := HJ.out.setE E
      simp only [e15] at hK ⊢
      clear hj hA e15
      go_simp
      refine hK.out _ _ ?_
      generalize w7.setCell ⟨N + 1, 0, none⟩ (.int .i64 E) = w8 at *
      clear x7 f7
      obtain ⟨c0, c1, c2', c3⟩ := cells4h HF.out.hd
      have c7 := cell00 HF.out.er
      go_wp2
      refine ⟨.tuple #[.agg #[.int .i64 0, .int .i64 0, .slice none 0 0, .int .i64 0], .int .i64 E], by simp [results, Tryd.results10, go_sem, c0, c1, c2', c3, c7], ?_⟩
      exact ⟨none, 0, 0, [], by rw [HG.out]; rfl, Of0.nil _ _, InjF.nil, rfl, Nat.le_refl _, by rw [HG.out]; rfl, HF.out.ch⟩
  · have hf := frE_0 he
    have HGJ : Hid (Hd21.getH bs = if hE (bs.getD 1 0) ((bs.take (Hd21.size bs - 4)).drop 2) ≠ 0 then (Hd21.zeroH, hE (bs.getD 1 0) ((bs.take (Hd21.size bs - 4)).drop 2)) else if (Cn20.readF (GA (bs.getD 1 0) ((bs.take (Hd21.size bs - 4)).drop 2)).1).2.2 ≠ 0 then (Hd21.zeroH, (Cn20.readF (GA (bs.getD 1 0) ((bs.take (Hd21.size bs - 4)).drop 2)).1).2.2) else (⟨(st1 (bs.getD 1 0) ((bs.take (Hd21.size bs - 4)).drop 2)).1, (st2 (bs.getD 1 0) ((bs.take (Hd21.size bs - 4)).drop 2)).1, (GA (bs.getD 1 0) ((bs.take (Hd21.size bs - 4)).drop 2)).1, Hd21.size bs⟩, 0)) := by
      show _ = _
      rw [HGI.out, if_neg (by simpa using he)]
    obtain ⟨b, off, rfl, hcs⟩ := row8_at HB.out (by have := HN.out; omega)
    have hb256 := dig_at HD.out 0
    have hSd : Hd21.size bs = 4 * bs.getD 0 0 + 4 := rfl
    obtain ⟨S, hS⟩ : ∃ S, Hd21.size bs = S := ⟨_, rfl⟩
    rw [hS] at hSd hf HGJ ⊢
    have x1 := hcs 1 (by have := HN.out; omega)
    obtain ⟨R, hR⟩ : ∃ R, (bs.take (S - 4)).drop 2 = R := ⟨_, rfl⟩
    have hf256 := dig_at HD.out 1
    obtain ⟨fl, hfl⟩ : ∃ fl, bs.getD 1 0 = fl := ⟨_, rfl⟩
    rw [hfl] at x1 hf256 HGJ
    rw [hR] at HGJ
    have HGH : Hid _ := HGJ.out
    have HFL : Hid (fl < 256) := hf256
    have HS : Hid (8 ≤ S ∧ S ≤ 1024 ∧ S ≤ n ∧ S ≤ c) := by
      have h1 := HN.out
      show _ ∧ _
      omega
    have HBC : Hid (∀ ww, Chg (fun _ => False) w0 ww → ww.cell? ⟨b, off + 1, none⟩ = some (.int .u8 (fl : Int))) := fun ww hcw => cell_chg x1 hcw
    have HRO : Hid (∀ ww, Chg (fun _ => False) w0 ww → Calls Tryd.prog 27 #[.slice (some ⟨b, off, none⟩) S c] ww fun e w' => ∃ a g, e = .returned (rmv a) ∧ Wire.Rd ww.heap.size w' a g (nums R) 0 ∧ ww.heap.size ≤ a ∧ Chg (fun _ => False) ww w') := fun ww hcw => by
      have h9 := roomOf21_any (some ⟨b, off, none⟩) S c (bs.take S) ww (row8_take (Bk.row8_chg HB.out hcw) HS.out.2.2.1) HS.out.2.2.2 HS.out.1 HS.out.2.1
      rw [List.take_take, Nat.min_eq_left (by omega), hR] at h9
      exact h9
    have HDR : Hid (Rc.Dig R) := by rw [← hR]; exact dig_drop (dig_take HD.out _) _
    have HRL : Hid (R.length ≤ 1024) := by
      have h1 := HS.out.2.1
      show _ ≤ _
      rw [← hR, List.length_drop, List.length_take]
      omega
    have hS8 : (8 : Int) ≤ (S : Int) := by have := HS.out; omega
    have hS1 : (S : Int) ≤ 1024 := by have := HS.out; omega
    have HM2 : Hid _ := HM.out.new c2
    have x7 := cell00 HM2.out.er
    have f7 := fr00H HM2.out.er
    have HE2 : Hid (GtC N w0 #[.int .i64 0, .int .i64 0, .slice none 0 0, .int .i64 0] 0 (w2.setCell ⟨N + 1, 0, none⟩ (.int .i64 0))) := HM2.out.setE 0
    have x8 := cell00 HE2.out.er
    clear hf HGJ HGI hcs hb256 hSd hS x1 hR hf256 hfl he c2 HM HFR
    go_upto_region 5 with fail
    clear x7 f7 x8
    generalize w2.setCell ⟨N + 1, 0, none⟩ (.int .i64 0) = w3 at *
    refine wp_region_phaseQ (mk := fun u => #[_, _, _, _, _, _, _, _, _, _, _, _, _, _, _, _, _, u 17, u 18, u 19, u 20, u 21, u 22, _, _, _, _, _, _, _, _, _, _, _, _, _, _, _]) (G := lookG [(17, .slice (some ⟨b, off, none⟩) S c), (19, .slice (some ⟨b, off, none⟩) S c), (20, .pointer (some ⟨b, off + 1, none⟩)), (21, .int .u8 (fl : Int))]) (J := fun qk u ww => GtJ N w0 #[.int .i64 0, .int .i64 0, .slice none 0 0, .int .i64 0] fl R qk (u 18) (u 22) ww) [1, 5] (fun i =>  2) ([{ target := Target.fn (Fn.func 25) #[.pointer (some ⟨N, 0, none⟩), .pointer (some ⟨N + 1, 0, none⟩)], args := #[] }]) (fun _ => undef) rfl (by kernel_rfl) 6 _ rfl rfl (by kernel_rfl) (by kernel_rfl) (by kernel_rfl) (by decide) ?_ ?_ ?_ (by kernel_rfl) ?_ ?_
    · repeat (refine ⟨fun _ _ => rfl, ?_⟩)
      exact trivial
    · intro qk u u2 ww h hj
      have e18 : u 18 = u2 18 := h 1 (by decide)
      have e22 : u 22 = u2 22 := h 5 (by decide)
      show GtJ _ _ _ _ _ _ _ _ _
      rw [← e18, ← e22]
      exact hj
    · exact ⟨HE2.out.new (Chg.refl _ _).drew, fun e => absurd e (by decide), fun e => absurd e (by decide)⟩
    · refine ⟨?_, ?_, ?_, ?_, ?_, ?_, trivial⟩
      · show StepRQ _ _ _ _ _ _ _ _ _ -- 17
        unfold StepRQ
        intro qn hq u w_ hj hd K hK
        clear hd
        clear hj
        go_simp
        exact hK.out _ rfl
      · show StepWQ _ _ _ _ _ _ _ _ _ -- 18
        unfold StepWQ
        intro u w_ hj hd K hK
        have h17 : u 17 = .slice (some ⟨b, off, none⟩) S c := hd.get 0 (by kernel_rfl)
        clear hd
        simp only [h17] at hK
        have HJ : Hid _ := hj
        clear hj
        go_simp
        go_at_call 27
        refine Calls.mono (HRO.out w_ HJ.out.1.ch) ?_
        rintro z w2 ⟨a, g, rfl, hr, ha, c2⟩
        exact hK.out _ w2 ⟨HJ.out.1.new c2, fun _ => ⟨a, g, _, rfl, hr, by have := HJ.out.1.sz; omega⟩, fun e => absurd e (by decide)⟩ trivial
      · show StepRQ _ _ _ _ _ _ _ _ _ -- 19
        unfold StepRQ
        intro qn hq u w_ hj hd K hK
        clear hd
        clear hj
        go_simp
        exact hK.out _ rfl
      · show StepRQ _ _ _ _ _ _ _ _ _ -- 20
        unfold StepRQ
        intro qn hq u w_ hj hd K hK
        have h19 : u 19 = .slice (some ⟨b, off, none⟩) S c := hd.get 2 (by kernel_rfl)
        clear hd
        simp only [h19] at hK
        clear hj
        have h1S : (1 : Int) < (S : Int) := by omega
        go_simp
        exact hK.out _ rfl
      · show StepRQ _ _ _ _ _ _ _ _ _ -- 21
        unfold StepRQ
        intro qn hq u w_ hj hd K hK
        have h20 : u 20 = .pointer (some ⟨b, off + 1, none⟩) := hd.get 3 (by kernel_rfl)
        clear hd
        simp only [h20] at hK
        have x0 := HBC.out _ hj.1.ch
        clear hj
        go_simp
        exact hK.out _ rfl
      · show StepWQ _ _ _ _ _ _ _ _ _ -- 22
        unfold StepWQ
        intro u w_ hj hd K hK
        have h21 : u 21 = .int .u8 (fl : Int) := hd.get 4 (by kernel_rfl)
        clear hd
        have HJ : Hid _ := hj
        clear hj
        obtain ⟨a, g, B, e18, hr, ha⟩ := HJ.out.2.1 rfl
        have HA : Hid (N + 2 ≤ a) := ha
        have HX : Hid _ := head21_any B a g R fl HFL.out w_ C (HT.out.1.new HJ.out.1.ch) hr HDR.out HRL.out
        simp only [e18, h21] at hK ⊢
        clear hr ha e18
        unfold rmv at HX ⊢
        go_simp
        go_at_call 28
        refine Calls.mono HX.out ?_
        rintro z w2 ⟨⟨he, rfl⟩ | ⟨he, la, i, lc, q, rfl, ho, hi, hl, hlc, hm⟩, c2⟩
        · have hG := HJ.out.1.go c2 (fun k e => by have := HA.out; omega)
          refine leaves_cons (f := 25) (args := #[.pointer (some ⟨N, 0, none⟩), .pointer (some ⟨N + 1, 0, none⟩)]) (by simp [gaveH]) (by simp [go_sem]) ?_
          refine (catch21_gave N w0 _ rfl 0 (hE fl R) _ hG).mono ?_
          rintro e u2 w11 ⟨rfl, rfl, hA⟩
          obtain ⟨c0, c1, c2', c3⟩ := cells4h hA.hd
          have c7 := cell00 hA.er
          refine ⟨.tuple #[.agg #[.int .i64 0, .int .i64 0, .slice none 0 0, .int .i64 0], .int .i64 (hE fl R)], by simp [results, Tryd.results10, go_sem, c0, c1, c2', c3, c7], ?_⟩
          have hg : Hd21.getH bs = (Hd21.zeroH, hE fl R) := by rw [HGH.out, if_pos he]
          exact ⟨none, 0, 0, [], by rw [hg]; rfl, Of0.nil _ _, InjF.nil, rfl, Nat.le_refl _, by rw [hg]; rfl, hA.ch⟩
        · exact hK.out _ w2 ⟨HJ.out.1.go c2 (fun k e => by have := HA.out; omega), fun e => absurd e (by decide), fun _ => ⟨la, i, lc, q, rfl, ho.low (by have := HJ.out.1.sz; omega), hi, hl, hlc, hm, he⟩⟩ trivial
    · intro u w7 hj hA K hK
      obtain ⟨hG, _, h22⟩ := hj
      obtain ⟨la, i, lc, q, e22, ho, hi, hl, hlc, hm, he0⟩ := h22 rfl
      obtain ⟨p1, hp1⟩ : ∃ p, (st1 fl R).1 = p := ⟨_, rfl⟩
      obtain ⟨s1, hs1⟩ : ∃ p, (st2 fl R).1 = p := ⟨_, rfl⟩
      obtain ⟨GF, hGF⟩ : ∃ p, (GA fl R).1 = p := ⟨_, rfl⟩
      have hgl : GF.length ≤ fl % 4 + 1 := by rw [← hGF]; exact getAll_lenH _ _
      have HG2 : Hid (Hd21.getH bs = if (Cn20.readF GF).2.2 ≠ 0 then (Hd21.zeroH, (Cn20.readF GF).2.2) else (⟨p1, s1, GF, S⟩, 0)) := by
        show _ = _
        rw [HGH.out, if_neg (by simpa using he0), hGF, hp1, hs1]
      rw [hp1, hs1] at e22
      rw [hGF] at hm
      have HQ : Hid (q.map FlV.f = GF ∧ InjF q ∧ q.length = i ∧ i ≤ lc) := ⟨hm, hi, hl, hlc⟩
      have hi4 : i ≤ 4 := by rw [← hl, ← List.length_map (f := FlV.f), hm]; omega
      unfold hdv at e22
      clear hA h22 hp1 hs1 hGF hgl hm hi hl hlc he0 HGH
      rw [if_pos (by rfl)]
      refine wp_store_rowH (a := ⟨_, _⟩) 24 (.tmp 2) (.tmp 22) (by rfl) N 24 _ #[.int .i64 p1, .int .i64 s1, .slice la i lc, .int .i64 0] (by rfl) (by exact e22) hG.hd infoHd4 rfl (one4 _ _ _ _ _ _) ?_
      intro wz hbz hcz
      have HZ : Hid (GtC N w0 #[.int .i64 p1, .int .i64 s1, .slice la i lc, .int .i64 0] 0 wz) := hG.setR hbz hcz
      have HO : Hid (Of0 (N + 2) wz (.slice la i lc) q) := ho.keepB hcz (fun k e => by omega)
      clear hG ho hbz hcz
      refine hK.out _ _ ?_
      obtain ⟨t0, t1, t2, t3⟩ := cells4h HZ.out.hd
      have HX : Hid _ := C.read la i lc q wz (HT.out.1.new HZ.out.ch) HO.out.L HQ.out.2.2.1 HQ.out.2.2.2 (by omega)
      rw [HQ.out.1] at HX
      obtain ⟨r1, r2, RE, hrr⟩ : ∃ a b c, Cn20.readF GF = (a, b, c) := ⟨_, _, _, rfl⟩
      rw [hrr] at HX HG2
      simp only at HX HG2
      clear hrr
      go_wp2_with fail
      refine Calls.mono HX.out ?_
      rintro z w8 ⟨rfl, c8⟩
      have HZ8 : Hid _ := HZ.out.new c8
      have HO8 : Hid _ := HO.out.new c8
      clear c8 HZ HO HX t0 t1 t2 t3
      by_cases k8 : RE = 0
      rotate_left
      · have hz1 : (RE != 0) = true := by simpa using k8
        have hz2 : (RE == 0) = false := by simpa using k8
        have HG3 : Hid (Hd21.getH bs = (Hd21.zeroH, RE)) := by show _ = _; rw [HG2.out, if_pos k8]
        clear k8 HG2
        go_wp2_with (refine wpList_store_row rfl 24 (.tmp 2) _ rfl N 24 _ #[.int .i64 0, .int .i64 0, .slice none 0 0, .int .i64 0] rfl rfl HZ8.out.hd infoHd4 rfl oneZ4 ?_)
        intro wy hby hcy
        have HZ9 : Hid (GtC N w0 #[.int .i64 0, .int .i64 0, .slice none 0 0, .int .i64 0] 0 wy) := HZ8.out.setR hby hcy
        clear hby hcy
        have x7 := cell00 HZ9.out.er
        have f7 := fr00H HZ9.out.er
        have HF : Hid (GtC N w0 #[.int .i64 0, .int .i64 0, .slice none 0 0, .int .i64 0] RE (wy.setCell ⟨N + 1, 0, none⟩ (.int .i64 RE))) := HZ9.out.setE RE
        go_wp2
        generalize wy.setCell ⟨N + 1, 0, none⟩ (.int .i64 RE) = wx at *
        refine leaves_cons (f := 25) (args := #[.pointer (some ⟨N, 0, none⟩), .pointer (some ⟨N + 1, 0, none⟩)]) (by simp) (by simp [go_sem]) ?_
        refine (catch21_idle _ _ _).mono ?_
        rintro e u2 w11 ⟨rfl, rfl, rfl⟩
        obtain ⟨c0, c1, c2', c3⟩ := cells4h HF.out.hd
        have c7 := cell00 HF.out.er
        refine ⟨.tuple #[.agg #[.int .i64 0, .int .i64 0, .slice none 0 0, .int .i64 0], .int .i64 RE], by simp [results, Tryd.results10, go_sem, c0, c1, c2', c3, c7], ?_⟩
        exact ⟨none, 0, 0, [], by rw [HG3.out]; rfl, Of0.nil _ _, InjF.nil, rfl, Nat.le_refl _, by rw [HG3.out]; rfl, HF.out.ch⟩
      · subst k8
        have HG3 : Hid (Hd21.getH bs = (⟨p1, s1, GF, S⟩, 0)) := by show _ = _; rw [HG2.out, if_neg (by simp)]
        clear HG2
        obtain ⟨t0, t1, t2, t3⟩ := cells4h HZ8.out.hd
        have f3 := free4 HZ8.out.hd 3
        have hb9 := blk_setkH (l := [.int .i64 p1, .int .i64 s1, .slice la i lc, .int .i64 0]) HZ8.out.hd 3 (.int .i64 (S : Int))
        have hc9 : Chg (fun z => z = N) w8 (w8.setCell ⟨N, 3, none⟩ (.int .i64 (S : Int))) := (Chg.refl (fun z => z = N) w8).setCell (p := ⟨N, 3, none⟩) (.inl rfl) _
        have HZ9 : Hid (GtC N w0 #[.int .i64 p1, .int .i64 s1, .slice la i lc, .int .i64 (S : Int)] 0 (w8.setCell ⟨N, 3, none⟩ (.int .i64 (S : Int)))) := HZ8.out.setR hb9 hc9
        have HO9 : Hid (Of0 (N + 2) (w8.setCell ⟨N, 3, none⟩ (.int .i64 (S : Int))) (.slice la i lc) q) := HO8.out.keepB hc9 (fun k e => by omega)
        obtain ⟨v0, v1, v2, v3⟩ := cells4h HZ9.out.hd
        clear hb9 hc9
        go_wp2_with (refine wpList_store_row rfl 24 (.tmp 2) _ rfl N 24 _ #[.int .i64 p1, .int .i64 s1, .slice la i lc, .int .i64 (S : Int)] rfl rfl HZ9.out.hd infoHd4 rfl (one4 _ _ _ _ _ _) ?_)
        intro wy hby hcy
        have HY : Hid (GtC N w0 #[.int .i64 p1, .int .i64 s1, .slice la i lc, .int .i64 (S : Int)] 0 wy) := HZ9.out.setR hby hcy
        have HOY : Hid (Of0 (N + 2) wy (.slice la i lc) q) := HO9.out.keepB hcy (fun k e => by omega)
        clear hby hcy t0 t1 t2 t3 f3 v0 v1 v2 v3
        have x7 := cell00 HY.out.er
        have f7 := fr00H HY.out.er
        have HF : Hid (GtC N w0 #[.int .i64 p1, .int .i64 s1, .slice la i lc, .int .i64 (S : Int)] 0 (wy.setCell ⟨N + 1, 0, none⟩ (.int .i64 0))) := HY.out.setE 0
        have HOF : Hid (Of0 (N + 2) (wy.setCell ⟨N + 1, 0, none⟩ (.int .i64 0)) (.slice la i lc) q) := HOY.out.keepB ((Chg.refl (fun z => z = N + 1) wy).setCell (p := ⟨N + 1, 0, none⟩) (.inl rfl) _) (fun k e => by omega)
        go_wp2
        generalize wy.setCell ⟨N + 1, 0, none⟩ (.int .i64 0) = wx at *
        refine leaves_cons (f := 25) (args := #[.pointer (some ⟨N, 0, none⟩), .pointer (some ⟨N + 1, 0, none⟩)]) (by simp) (by simp [go_sem]) ?_
        refine (catch21_idle _ _ _).mono ?_
        rintro e u2 w11 ⟨rfl, rfl, rfl⟩
        obtain ⟨c0, c1, c2', c3⟩ := cells4h HF.out.hd
        have c7 := cell00 HF.out.er
        refine ⟨.tuple #[.agg #[.int .i64 p1, .int .i64 s1, .slice la i lc, .int .i64 (S : Int)], .int .i64 0], by simp [results, Tryd.results10, go_sem, c0, c1, c2', c3, c7], ?_⟩
        exact ⟨la, i, lc, q, by rw [HG3.out]; rfl, HOF.out.low (by rw [HNN.out]; omega), HQ.out.2.1, HQ.out.2.2.1, HQ.out.2.2.2, by rw [HG3.out]; exact HQ.out.1, HF.out.ch⟩
end Go.Proofs.YtkncbanodpfccaaDoor
