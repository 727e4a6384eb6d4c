/- ShaPlays holds where what is handed in is of bulk at most 1048576: for every script handed to the statement's function the call returns true and the script reads afterwards as it did; the bound is the given statement's own, and the two tables are as the program's text lays them. -/
import Derived.Test.YtnedllhlmddmoabDoorStr
import Derived.Test.YtnedllhlmddmoabDoorUpto
import Derived.Test.YtnedllhlmddmoabDoorPlays
import Derived.Test.YtnedllhlmddmoabDoorLaid
import Derived.Deep.Slices
import Derived.Test.YtnedllhlmddmoabDoorCards
import Derived.Test.YtnedllhlmddmoabDoorTie
import Derived.SevenTiedAt
namespace Go.Proofs.YtnedllhlmddmoabDoor.shaPlays
open Go.ChangeShapes Go.WideShapes Go.ChangeAt Go.RowKit
set_option linter.unusedVariables false

theorem list_choose {α : Type} (n : Nat) (Q : Nat → α → Prop) (h : ∀ i, i < n → ∃ x, Q i x) : ∃ l : List α, l.length = n ∧ ∀ i (hi : i < l.length), Q i l[i] := by
  induction n with
  | zero => exact ⟨[], rfl, fun i hi => by simp at hi⟩
  | succ n ih =>
    obtain ⟨l, hl, hq⟩ := ih (fun i hi => h i (by omega))
    obtain ⟨x, hx⟩ := h n (by omega)
    refine ⟨l ++ [x], by simp [hl], fun i hi => ?_⟩
    by_cases hlt : i < l.length
    · rw [List.getElem_append_left hlt]
      exact hq i hlt
    · have e : i = l.length := by simp at hi; omega
      subst e
      rw [List.getElem_append_right (Nat.le_refl _)]
      simpa [hl] using hx

theorem flat_bulk {H : Type} : ∀ (nss : List (List Nat)) (ds : List (DataW H)), nss.length = ds.length → (∀ i (h1 : i < nss.length) (h2 : i < ds.length), nss[i].length ≤ Rows.uptoBulk ds[i]) → nss.flatten.length ≤ Rows.uptoBulkAll ds
  | [], _, _, _ => by simp
  | ns :: nss, [], h, _ => by simp at h
  | ns :: nss, d :: ds, h, hb => by
    have h0 := hb 0 (by simp) (by simp)
    have ih := flat_bulk nss ds (by simpa using h) (fun i h1 h2 => by
      have := hb (i + 1) (by simpa using h1) (by simpa using h2)
      simp only [List.getElem_cons_succ] at this
      exact this)
    simp only [List.getElem_cons_zero] at h0
    simp only [List.flatten_cons, List.length_append, Rows.uptoBulkAll]
    omega

theorem cellsO : Tryd.prog.cellsOf 42 = 4 := by kernel_rfl
theorem cellsI : Tryd.prog.cellsOf 3 = 1 := by kernel_rfl

theorem four_cells {cs : List Value} (h : cs.length = 4) : ∃ c0 c1 c2 c3, cs = [c0, c1, c2, c3] := by
  match cs, h with
  | [c0, c1, c2, c3], _ => exact ⟨c0, c1, c2, c3, rfl⟩

theorem bulk_mem {H : Type} {d : DataW H} : ∀ {l : List (DataW H)}, d ∈ l → Rows.uptoBulk d ≤ Rows.uptoBulkAll l
  | [], h => by cases h
  | x :: r, h => by
    simp only [Rows.uptoBulkAll]
    rcases List.mem_cons.1 h with rfl | h
    · omega
    · have := bulk_mem h
      omega

/-- One call of the script, opened. -/
theorem open_op {H : Type} {enc : TypeId × Value → H} {W : World} {fuel : Nat} {cs : List Value} {y : DataW H × List MemPlace}
    (hf : DataW.trod enc Tryd.prog W 0 (fun _ => true) true fuel 42 cs = some y) :
    ∃ o : Opv, cs = [.int .i64 o.kind, .int .i64 o.hh, .int .i64 o.nn, .slice o.ad o.m o.c] ∧ (Row8 W o.ad o.m o.c (up o.ns) ∧ Byt o.ns ∧ (-9223372036854775808 ≤ o.hh ∧ o.hh < 9223372036854775808) ∧ (-9223372036854775808 ≤ o.nn ∧ o.nn < 9223372036854775808)) ∧ o.ns.length ≤ Rows.uptoBulk y.1 := by
  obtain ⟨xs, n, _, rfl, hl, hlen, hx⟩ := DataW.trod_struct Tryd.underlying42 hf
  rw [cellsO] at hl
  obtain ⟨c0, c1, c2, c3, rfl⟩ := four_cells hl
  have h0 : DataW.trod enc Tryd.prog W 0 (fun _ => true) true n 3 [c0] = xs[0]? := by have := hx 0 _ rfl; simpa [cellsI] using this
  have h1 : DataW.trod enc Tryd.prog W 0 (fun _ => true) true n 3 [c1] = xs[1]? := by have := hx 1 _ rfl; simpa [cellsI] using this
  have h2 : DataW.trod enc Tryd.prog W 0 (fun _ => true) true n 3 [c2] = xs[2]? := by have := hx 2 _ rfl; simpa [cellsI] using this
  have h3 : DataW.trod enc Tryd.prog W 0 (fun _ => true) true n 24 [c3] = xs[3]? := by have := hx 3 _ rfl; simpa [cellsB] using this
  have hs : xs.length = 4 := by simpa using hlen
  obtain ⟨y0, e0⟩ : ∃ y, xs[0]? = some y := ⟨xs[0], List.getElem?_eq_getElem (by omega)⟩
  obtain ⟨y1, e1⟩ : ∃ y, xs[1]? = some y := ⟨xs[1], List.getElem?_eq_getElem (by omega)⟩
  obtain ⟨y2, e2⟩ : ∃ y, xs[2]? = some y := ⟨xs[2], List.getElem?_eq_getElem (by omega)⟩
  obtain ⟨y3, e3⟩ : ∃ y, xs[3]? = some y := ⟨xs[3], List.getElem?_eq_getElem (by omega)⟩
  rw [e0] at h0
  rw [e1] at h1
  rw [e2] at h2
  rw [e3] at h3
  obtain ⟨k, ek, _, _⟩ := DataW.trod_int Tryd.underlying3 h0
  obtain ⟨q, eq, _, wq⟩ := DataW.trod_int Tryd.underlying3 h1
  obtain ⟨m, em, _, wm⟩ := DataW.trod_int Tryd.underlying3 h2
  obtain ⟨a, len, cap, ns, es, hrow, h8, _, hb, _⟩ := open8c h3
  simp only [List.cons.injEq, and_true] at ek eq em
  subst ek eq em es
  have bq := bounds_i64 wq
  have bm := bounds_i64 wm
  have hnl : ns.length = len := by rw [← up_length]; exact hrow.1
  refine ⟨⟨k, q, m, a, len, cap, ns⟩, rfl, ⟨hrow, h8, ⟨by show _ ≤ q; omega, by show q < _; omega⟩, ⟨by show _ ≤ m; omega, by show m < _; omega⟩⟩, ?_⟩
  have hmem : y3.1 ∈ xs.map (·.1) := List.mem_map.2 ⟨y3, List.mem_of_getElem? e3, rfl⟩
  have := bulk_mem hmem
  simp only [Rows.uptoBulk]
  omega

/-- The script, opened. -/
theorem open_ops {H : Type} {enc : TypeId × Value → H} {W : World} {a : Option Addr} {len cap : Nat} {d : DataW H} {p : List MemPlace}
    (h : DataW.Trod enc Tryd.prog W 0 (fun _ => true) true 33 (.slice a len cap) d p) (hk : Rows.uptoBulk d ≤ 1048576) :
    ∃ os, ArgO W a len os ∧ len ≤ 1048576 ∧ ((os.map Opv.ns).flatten).length ≤ 1048576 := by
  obtain ⟨fuel, hf⟩ := h
  rcases Deep.open_slice Tryd.underlying33 hf with ⟨hcs, _⟩ | ⟨x, len', cap', m, n, D, Pl, hcs, _, hl, hm, hmm, hx, hel⟩
  · simp [Value.cells] at hcs
    obtain ⟨rfl, rfl, rfl⟩ := hcs
    exact ⟨[], ⟨rfl, fun k h => by simp at h, fun k h => by simp at h⟩, by omega, by simp⟩
  · simp [Value.cells] at hcs
    obtain ⟨rfl, rfl, rfl⟩ := hcs
    simp only [if_true] at hmm
    subst hmm
    simp only [Prod.mk.injEq] at hx
    rw [hx.1] at hk
    simp only [Rows.uptoBulk] at hk
    have hlen := bulk_all_len ((List.range len).map D)
    rw [List.length_map, List.length_range] at hlen
    obtain ⟨os, hpl, hq⟩ := list_choose len (fun i (q : Opv) => (∀ j, j < 4 → W.cell? ((x.add (i * 4)).add j) = [Value.int .i64 q.kind, .int .i64 q.hh, .int .i64 q.nn, .slice q.ad q.m q.c][j]?) ∧ (Row8 W q.ad q.m q.c (up q.ns) ∧ Byt q.ns ∧ (-9223372036854775808 ≤ q.hh ∧ q.hh < 9223372036854775808) ∧ (-9223372036854775808 ≤ q.nn ∧ q.nn < 9223372036854775808)) ∧ q.ns.length ≤ Rows.uptoBulk (D i)) (fun i hi => by
      obtain ⟨cs', h1, h2⟩ := hel i (by omega)
      rw [cellsO] at h1
      obtain ⟨q, e, hv, hb⟩ := open_op h2
      subst e
      exact ⟨q, (World.cells?_some h1).2.2, hv, hb⟩)
    obtain ⟨b, off, sp⟩ := x
    refine ⟨os, ⟨hpl, fun k hk => ?_, fun k hk => (hq k hk).2.1⟩, by omega, ?_⟩
    · have hc := (hq k hk).1
      have hs : sp = none := by
        have := (hq 0 (by omega)).1 0 (by omega)
        simp [Addr.add] at this
        exact World.cell?_spot this
      subst hs
      have ha : ∀ j, ((⟨b, off, none⟩ : Addr).add (k * 4)).add j = ⟨b, off + k * 4 + j, none⟩ := fun j => by rw [addk, addk]
      have g0 := hc 0 (by omega)
      have g1 := hc 1 (by omega)
      have g2 := hc 2 (by omega)
      have g3 := hc 3 (by omega)
      rw [ha] at g0 g1 g2 g3
      exact ⟨b, off, rfl, by simpa using g0, by simpa using g1, by simpa using g2, by simpa using g3⟩
    · have := flat_bulk (os.map Opv.ns) ((List.range len).map D) (by simp [hpl]) (fun i h1 h2 => by
        have h3 : i < os.length := by simpa using h1
        simpa using (hq i h3).2.2)
      omega

theorem contract (H : Type) (enc : TypeId × Value → H) (W : World) (base : Nat) (args : Array Value) (ds gs : List (DataW H)) (before : List MemPlace)
    (hval : ∀ (j : Nat) t v, Tryd.f4.params[j]? = some t → args[j]? = some v → Value.okWide Tryd.prog W .any base t v)
    (hW : DataW.Whole enc Tryd.prog Tryd.f4.params.toList Rows.shaPlaysSpec.vars false W args.toList ds gs before) (hk : Rows.uptoSmall H (ds ++ gs) = true) (hL : laidMetH Tryd.prog [("pith/sha.first", Rows.laid_pith_sha_first), ("pith/sha.constants", Rows.laid_pith_sha_constants)] W) :
    Calls Tryd.prog 4 args W fun e W' => ∃ v, e = .returned v ∧ Rows.shaPlaysSpec.post enc Tryd.prog Tryd.f4 false true false false W args v W' := by
  have hT := tab_of_laid hL
  have hW' := hW
  obtain ⟨p, q, hA0, hV, rfl, hfz, hnd⟩ := hW
  have hA : DataW.TrodAll enc Tryd.prog W 0 (fun _ => true) true Tryd.f4.params.toList args.toList ds p := hA0
  rw [Tryd.params4] at hA hval
  obtain ⟨v0, vs0, d0, ds0, p0, q0, hargs, rfl, rfl, h0, r0⟩ := trodAll_cons hA
  obtain ⟨rfl, rfl, rfl⟩ := trodAll_nil r0
  obtain rfl : args = #[v0] := by cases args; simp_all
  obtain ⟨rfl, rfl⟩ := trodVars_none hV
  have hbulk : Rows.uptoBulkAll [d0] ≤ 1048576 := by
    have := of_decide_eq_true hk
    simpa using this
  simp only [Rows.uptoBulkAll] at hbulk
  clear hA0
  obtain ⟨a0, len0, cap0, rfl⟩ := okWide_slice Tryd.underlying33 (hval 0 33 v0 rfl rfl)
  have k0 := h0
  have lt0 : ∀ x ∈ p0, x.block < W.heap.size := by obtain ⟨m, hm⟩ := k0; exact DataW.trod_lt m _ _ _ hm
  obtain ⟨os, hx0, hn0, hf0⟩ := open_ops h0 (by omega)
  refine (plays_walk a0 len0 cap0 os W hT hx0 hn0 hf0).mono fun e W' ⟨he, hCC⟩ => ?_
  subst he
  have bel := below_of hCC
  exact ⟨_, rfl, _, _, _, [], _, [], hW', trodAll_mk1 (shut_bool Tryd.underlying4 _), (trodAll_cons_mk (Below.trod laidOut (by kernel_rfl) (of_decide_eq_true (by kernel_rfl)) k0 bel lt0) trodAll_mk0), rfl, bel.frame _, fun h => by cases h⟩

theorem laid_met (os : Os) : laidMet Tryd.prog [("pith/sha.first", Rows.laid_pith_sha_first), ("pith/sha.constants", Rows.laid_pith_sha_constants)] ((World.doorLaid Tryd.prog 400 os).forCall (fun _ _ => 0) ⟨#[], #[.slice none 0 0], []⟩).memory :=
  laidMet_of_run' 8 (by kernel_rfl) (by kernel_rfl)
theorem reads (os : Os) {H : Type} (enc : TypeId × Value → H) : ∃ places, DataW.whole enc Tryd.prog ((World.doorLaid Tryd.prog 400 os).forCall (fun _ _ => 0) ⟨#[], #[.slice none 0 0], []⟩).memory Tryd.f4.params.toList Rows.shaPlaysSpec.vars false #[.slice none 0 0].toList 8 = some ([.nil], [], places) :=
  ⟨[], by kernel_rfl⟩

set_option maxRecDepth 100000 in
theorem lifted (os : Os) (started : os.Started) (H : Type) (enc : TypeId × Value → H) (F : Stop.Interp) :
    ReturnsInHanded {} Tryd.checked os 4 .any ((Rows.OpenSpec.upto Rows.shaPlaysSpec).preRow enc Tryd.prog Tryd.f4 Rows.shaPlaysUptoRow.domain false Rows.shaPlaysUptoRow.laid) (((Rows.OpenSpec.upto Rows.shaPlaysSpec).at F).post enc Tryd.prog Tryd.f4 false true false false) := by
  obtain ⟨places, hx⟩ := reads os enc
  refine returnsInHanded_of_row (C := Tryd.checked) (s := Rows.OpenSpec.upto Rows.shaPlaysSpec) own started (by kernel_rfl) Tryd.func4
    (witness_row_at (enc := enc) (C := Tryd.checked) false (World.doorLaid Tryd.prog 400 os) #[.slice none 0 0] rfl (by kernel_rfl) (by kernel_rfl) (by kernel_rfl)
      (OpenSpec.preRow_of_cond 8 hx (by kernel_rfl) (fun k hk => by cases hk; kernel_rfl) (by kernel_rfl) (laid_met os))) ?_
  intro W base args ds gs before hval hW _ hcond _ hL _ _
  exact contract H enc W base args ds gs before hval hW (hcond _ rfl) hL

theorem over : Rows.ShaPlaysUptoSaid :=
  OpenClaim.holds_of_cond 4 Tryd.f4 rfl rfl rfl rfl rfl rfl rfl ⟨rfl, rfl, rfl, rfl, rfl⟩ rfl rfl rfl rfl rfl (by kernel_rfl) Tryd.func4 (by kernel_rfl)
    (of_decide_eq_true (by kernel_rfl)) (by unfold Func.isWrapper; first | (rw [if_pos (by decide +kernel)]; kernel_rfl) | (rw [if_neg (by decide +kernel)]; exact ⟨rfl, rfl⟩))
    (fun os started H enc _ F => by rw [OpenClaim.pre_eq_preRow]; exact lifted os started H enc F)

theorem card : Rows.ShaPlaysUptoCardSaid :=
  Claim7.holds_tied_plain_at .later [] [.data, .data] true (true, "eae06803bf10629b9bc3d071b55495ca189d23640699e88e31dc2d172a4de192") false
    over (fun _ h => by cases h) (by kernel_rfl) (fun _ h => by cases h) shaPlaysUpto_row_tie rfl ⟨rfl, rfl⟩ (by kernel_rfl) rfl
    (fun f fn hf hfn => by
      obtain rfl : f = 4 := Option.some.inj ((show Tryd.prog.funcNamed "pith/pithlaw04.ShaPlays" = some 4 by kernel_rfl).symm.trans hf) |>.symm
      obtain rfl : fn = Tryd.f4 := (Option.some.inj (Tryd.func4.symm.trans hfn)).symm
      exact ⟨by kernel_rfl, fun j t ht => by
        rw [Tryd.params4] at ht
        have hm : t ∈ [33] := by simpa using Array.mem_of_getElem? ht
        have hall : ([33].all fun u => !Tryd.prog.wantsStandIn u) = true := by kernel_rfl
        exact (show Tryd.prog.wantsStandIn t = false by simpa using List.all_eq_true.1 hall t hm)⟩)
    (by kernel_rfl)
end Go.Proofs.YtnedllhlmddmoabDoor.shaPlays
namespace Go.Proofs.YtnedllhlmddmoabDoor
theorem shaPlaysUpto_holds : Rows.ShaPlaysUptoCardSaid := shaPlays.card
#print axioms shaPlaysUpto_holds
end Go.Proofs.YtnedllhlmddmoabDoor
