/- ShaSums holds where what is handed in is of bulk at most 1048576: for every list of texts and every number handed to the statement's function the call returns true and the arguments read afterwards as they did; the bound is the given statement's own, and the two tables are as the program's text lays them. -/
import Derived.Test.YtnedllhlmddmoabDoorStr
import Derived.Test.YtnedllhlmddmoabDoorUpto
import Derived.Test.YtnedllhlmddmoabDoorSumsB
import Derived.Test.YtnedllhlmddmoabDoorLaid
import Derived.Deep.Slices
import Derived.Test.YtnedllhlmddmoabDoorCards
import Derived.Test.YtnedllhlmddmoabDoorTie
import Derived.SevenTiedAt
namespace Go.Proofs.YtnedllhlmddmoabDoor.shaSums
open Go.ChangeShapes Go.WideShapes Go.ChangeAt Go.RowKit
set_option linter.unusedVariables false

theorem list_choose {α : Type} (n : Nat) (Q : Nat → α → Prop) (h : ∀ i, i < n → ∃ x, Q i x) : ∃ l : List α, l.length = n ∧ ∀ i (hi : i < l.length), Q i l[i] := by
  induction n with
  | zero => exact ⟨[], rfl, fun i hi => by simp at hi⟩
  | succ n ih =>
    obtain ⟨l, hl, hq⟩ := ih (fun i hi => h i (by omega))
    obtain ⟨x, hx⟩ := h n (by omega)
    refine ⟨l ++ [x], by simp [hl], fun i hi => ?_⟩
    by_cases hlt : i < l.length
    · rw [List.getElem_append_left hlt]
      exact hq i hlt
    · have e : i = l.length := by simp at hi; omega
      subst e
      rw [List.getElem_append_right (Nat.le_refl _)]
      simpa [hl] using hx

theorem flat_bulk {H : Type} : ∀ (nss : List (List Nat)) (ds : List (DataW H)), nss.length = ds.length → (∀ i (h1 : i < nss.length) (h2 : i < ds.length), nss[i].length ≤ Rows.uptoBulk ds[i]) → nss.flatten.length ≤ Rows.uptoBulkAll ds
  | [], _, _, _ => by simp
  | ns :: nss, [], h, _ => by simp at h
  | ns :: nss, d :: ds, h, hb => by
    have h0 := hb 0 (by simp) (by simp)
    have ih := flat_bulk nss ds (by simpa using h) (fun i h1 h2 => by
      have := hb (i + 1) (by simpa using h1) (by simpa using h2)
      simp only [List.getElem_cons_succ] at this
      exact this)
    simp only [List.getElem_cons_zero] at h0
    simp only [List.flatten_cons, List.length_append, Rows.uptoBulkAll]
    omega

theorem cellsS : Tryd.prog.cellsOf 9 = 1 := by kernel_rfl

/-- The texts, opened. -/
theorem open_texts {H : Type} {enc : TypeId × Value → H} {W : World} {a : Option Addr} {len cap : Nat} {d : DataW H} {p : List MemPlace}
    (h : DataW.Trod enc Tryd.prog W 0 (fun _ => true) true 22 (.slice a len cap) d p) (hk : Rows.uptoBulk d ≤ 1048576) :
    ∃ nss, ArgS W a len nss ∧ len ≤ 1048576 ∧ nss.flatten.length ≤ 1048576 := by
  obtain ⟨fuel, hf⟩ := h
  rcases Deep.open_slice Tryd.underlying22 hf with ⟨hcs, _⟩ | ⟨x, len', cap', m, n, D, Pl, hcs, _, hl, hm, hmm, hx, hel⟩
  · simp [Value.cells] at hcs
    obtain ⟨rfl, rfl, rfl⟩ := hcs
    exact ⟨[], ⟨rfl, fun k h => by simp at h, fun k h => by simp at h⟩, by omega, by simp⟩
  · simp [Value.cells] at hcs
    obtain ⟨rfl, rfl, rfl⟩ := hcs
    simp only [if_true] at hmm
    subst hmm
    simp only [Prod.mk.injEq] at hx
    rw [hx.1] at hk
    simp only [Rows.uptoBulk] at hk
    have hlen := bulk_all_len ((List.range len).map D)
    rw [List.length_map, List.length_range] at hlen
    obtain ⟨l, hll, hq⟩ := list_choose len (fun i (q : List Nat) => W.cell? (x.add i) = some (.string (str q)) ∧ Byt q ∧ q.length ≤ Rows.uptoBulk (D i)) (fun i hi => by
      obtain ⟨cs', h1, h2⟩ := hel i (by omega)
      rw [cellsS, Nat.mul_one] at h1
      obtain ⟨_, hl1, hc1⟩ := World.cells?_some h1
      match cs', hl1 with
      | [c0], _ =>
        obtain ⟨s, e1, e2, _⟩ := DataW.trod_string Tryd.underlying9 h2
        simp only [List.cons.injEq, and_true] at e1
        subst e1
        have hc0 := hc1 0 (by omega)
        have ha : (x.add i).add 0 = x.add i := by simp [Addr.add]
        rw [ha] at hc0
        simp only [Prod.mk.injEq] at e2
        refine ⟨numsOf s, ?_, numsOf_byt s, ?_⟩
        · rw [numsOf_str]; simpa using hc0
        · rw [e2.1, numsOf_len]; simp [Rows.uptoBulk])
    refine ⟨l, ⟨hll, fun k hk => ⟨x, rfl, (hq k hk).1⟩, fun ns hm => ?_⟩, by omega, ?_⟩
    · obtain ⟨k, hk, rfl⟩ := List.mem_iff_getElem.1 hm
      exact (hq k hk).2.1
    · have := flat_bulk l ((List.range len).map D) (by simp [hll]) (fun i h1 h2 => by
        simpa using (hq i h1).2.2)
      omega

theorem walk (a : Option Addr) (N c : Nat) (nss : List (List Nat)) (n : Int) (wn : (Lit.int .i64 n).wf = true) (w0 : World) (T0 : Tab w0) (hA : ArgS w0 a N nss) (hN : N ≤ 1048576) (hF : nss.flatten.length ≤ 1048576) :
    Calls Tryd.prog 3 #[.slice a N c, .int .i64 n] w0 fun e w' => e = .returned (.bool true) ∧ Chg (fun _ => False) w0 w' := by
  have := bounds_i64 wn
  exact sums_walk a N c nss n w0 T0 hA hN hF (by omega) (by omega)

theorem contract (H : Type) (enc : TypeId × Value → H) (W : World) (base : Nat) (args : Array Value) (ds gs : List (DataW H)) (before : List MemPlace)
    (hval : ∀ (j : Nat) t v, Tryd.f3.params[j]? = some t → args[j]? = some v → Value.okWide Tryd.prog W .any base t v)
    (hW : DataW.Whole enc Tryd.prog Tryd.f3.params.toList Rows.shaSumsSpec.vars false W args.toList ds gs before) (hk : Rows.uptoSmall H (ds ++ gs) = true) (hL : laidMetH Tryd.prog [("pith/sha.first", Rows.laid_pith_sha_first), ("pith/sha.constants", Rows.laid_pith_sha_constants)] W) :
    Calls Tryd.prog 3 args W fun e W' => ∃ v, e = .returned v ∧ Rows.shaSumsSpec.post enc Tryd.prog Tryd.f3 false true false false W args v W' := by
  have hT := tab_of_laid hL
  have hW' := hW
  obtain ⟨p, q, hA0, hV, rfl, hfz, hnd⟩ := hW
  have hA : DataW.TrodAll enc Tryd.prog W 0 (fun _ => true) true Tryd.f3.params.toList args.toList ds p := hA0
  rw [Tryd.params3] at hA hval
  obtain ⟨v0, vs0, d0, ds0, p0, q0, hargs, rfl, rfl, h0, r0⟩ := trodAll_cons hA
  obtain ⟨v1, vs1, d1, ds1, p1, q1, rfl, rfl, rfl, h1, r1⟩ := trodAll_cons r0
  obtain ⟨rfl, rfl, rfl⟩ := trodAll_nil r1
  obtain rfl : args = #[v0, v1] := by cases args; simp_all
  obtain ⟨rfl, rfl⟩ := trodVars_none hV
  have hbulk : Rows.uptoBulkAll [d0, d1] ≤ 1048576 := by
    have := of_decide_eq_true hk
    simpa using this
  simp only [Rows.uptoBulkAll] at hbulk
  clear hA0
  obtain ⟨a0, len0, cap0, rfl⟩ := okWide_slice Tryd.underlying22 (hval 0 22 v0 rfl rfl)
  have k0 := h0
  have lt0 : ∀ x ∈ p0, x.block < W.heap.size := by obtain ⟨m, hm⟩ := k0; exact DataW.trod_lt m _ _ _ hm
  obtain ⟨nss, hx0, hn0, hf0⟩ := open_texts h0 (by omega)
  obtain ⟨a1, rfl, rfl, rfl, w1⟩ := open_int Tryd.underlying3 (hval 1 3 v1 rfl rfl) h1
  refine (walk a0 len0 cap0 nss a1 w1 W hT hx0 hn0 hf0).mono fun e W' ⟨he, hCC⟩ => ?_
  subst he
  have bel := below_of hCC
  exact ⟨_, rfl, _, _, _, [], _, [], hW', trodAll_mk1 (shut_bool Tryd.underlying4 _), (trodAll_cons_mk (Below.trod laidOut (by kernel_rfl) (of_decide_eq_true (by kernel_rfl)) k0 bel lt0) (trodAll_cons_mk (shut_int Tryd.underlying3 w1) trodAll_mk0)), rfl, bel.frame _, fun h => by cases h⟩

theorem laid_met (os : Os) : laidMet Tryd.prog [("pith/sha.first", Rows.laid_pith_sha_first), ("pith/sha.constants", Rows.laid_pith_sha_constants)] ((World.doorLaid Tryd.prog 400 os).forCall (fun _ _ => 0) ⟨#[], #[.slice none 0 0, .int .i64 0], []⟩).memory :=
  laidMet_of_run' 8 (by kernel_rfl) (by kernel_rfl)
theorem reads (os : Os) {H : Type} (enc : TypeId × Value → H) : ∃ places, DataW.whole enc Tryd.prog ((World.doorLaid Tryd.prog 400 os).forCall (fun _ _ => 0) ⟨#[], #[.slice none 0 0, .int .i64 0], []⟩).memory Tryd.f3.params.toList Rows.shaSumsSpec.vars false #[.slice none 0 0, .int .i64 0].toList 8 = some ([.nil, .lit (.int .i64 0)], [], places) :=
  ⟨[], by kernel_rfl⟩

set_option maxRecDepth 100000 in
theorem lifted (os : Os) (started : os.Started) (H : Type) (enc : TypeId × Value → H) (F : Stop.Interp) :
    ReturnsInHanded {} Tryd.checked os 3 .any ((Rows.OpenSpec.upto Rows.shaSumsSpec).preRow enc Tryd.prog Tryd.f3 Rows.shaSumsUptoRow.domain false Rows.shaSumsUptoRow.laid) (((Rows.OpenSpec.upto Rows.shaSumsSpec).at F).post enc Tryd.prog Tryd.f3 false true false false) := by
  obtain ⟨places, hx⟩ := reads os enc
  refine returnsInHanded_of_row (C := Tryd.checked) (s := Rows.OpenSpec.upto Rows.shaSumsSpec) own started (by kernel_rfl) Tryd.func3
    (witness_row_at (enc := enc) (C := Tryd.checked) false (World.doorLaid Tryd.prog 400 os) #[.slice none 0 0, .int .i64 0] rfl (by kernel_rfl) (by kernel_rfl) (by kernel_rfl)
      (OpenSpec.preRow_of_cond 8 hx (by kernel_rfl) (fun k hk => by cases hk; kernel_rfl) (by kernel_rfl) (laid_met os))) ?_
  intro W base args ds gs before hval hW _ hcond _ hL _ _
  exact contract H enc W base args ds gs before hval hW (hcond _ rfl) hL

theorem over : Rows.ShaSumsUptoSaid :=
  OpenClaim.holds_of_cond 3 Tryd.f3 rfl rfl rfl rfl rfl rfl rfl ⟨rfl, rfl, rfl, rfl, rfl⟩ rfl rfl rfl rfl rfl (by kernel_rfl) Tryd.func3 (by kernel_rfl)
    (of_decide_eq_true (by kernel_rfl)) (by unfold Func.isWrapper; first | (rw [if_pos (by decide +kernel)]; kernel_rfl) | (rw [if_neg (by decide +kernel)]; exact ⟨rfl, rfl⟩))
    (fun os started H enc _ F => by rw [OpenClaim.pre_eq_preRow]; exact lifted os started H enc F)

theorem card : Rows.ShaSumsUptoCardSaid :=
  Claim7.holds_tied_plain_at .later [] [.data, .data] true (true, "eae06803bf10629b9bc3d071b55495ca189d23640699e88e31dc2d172a4de192") false
    over (fun _ h => by cases h) (by kernel_rfl) (fun _ h => by cases h) shaSumsUpto_row_tie rfl ⟨rfl, rfl⟩ (by kernel_rfl) rfl
    (fun f fn hf hfn => by
      obtain rfl : f = 3 := Option.some.inj ((show Tryd.prog.funcNamed "pith/pithlaw04.ShaSums" = some 3 by kernel_rfl).symm.trans hf) |>.symm
      obtain rfl : fn = Tryd.f3 := (Option.some.inj (Tryd.func3.symm.trans hfn)).symm
      exact ⟨by kernel_rfl, fun j t ht => by
        rw [Tryd.params3] at ht
        have hm : t ∈ [22, 3] := by simpa using Array.mem_of_getElem? ht
        have hall : ([22, 3].all fun u => !Tryd.prog.wantsStandIn u) = true := by kernel_rfl
        exact (show Tryd.prog.wantsStandIn t = false by simpa using List.all_eq_true.1 hall t hm)⟩)
    (by kernel_rfl)
end Go.Proofs.YtnedllhlmddmoabDoor.shaSums
namespace Go.Proofs.YtnedllhlmddmoabDoor
theorem shaSumsUpto_holds : Rows.ShaSumsUptoCardSaid := shaSums.card
#print axioms shaSumsUpto_holds
end Go.Proofs.YtnedllhlmddmoabDoor
