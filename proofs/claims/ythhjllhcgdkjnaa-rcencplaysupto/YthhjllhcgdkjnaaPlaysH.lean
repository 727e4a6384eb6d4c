/- RcencPlays holds where what is handed in is of bulk at most 1048576: for all numbers and every script handed to it the call returns true and the arguments read afterwards as they did; the bound is the given statement's own and its only condition. -/
import Derived.Test.YthhjllhcgdkjnaaPlays
import Derived.Test.YthhjllhcgdkjnaaOpen
import Derived.WalkKit
import Derived.JoinedCond
namespace Go.Proofs.Ythhjllhcgdkjnaa.rcencPlays
open Go.ChangeShapes Go.WideShapes Go.ChangeAt Go.RowKit
set_option linter.unusedVariables false

theorem own : ownKnob Try.prog.godebug = none := by kernel_rfl
theorem laidOut : laidOutB Try.prog = true := by kernel_rfl
theorem cellsO : Try.prog.cellsOf 65 = 7 := by kernel_rfl
theorem cellsU : Try.prog.cellsOf 26 = 1 := by kernel_rfl
theorem seven_cells {cs : List Value} (h : cs.length = 7) : ∃ c0 c1 c2 c3 c4 c5 c6, cs = [c0, c1, c2, c3, c4, c5, c6] := by
  match cs, h with
  | [c0, c1, c2, c3, c4, c5, c6], _ => exact ⟨c0, c1, c2, c3, c4, c5, c6, rfl⟩

theorem bulk_pos {H : Type} : ∀ d : DataW H, 1 ≤ Rows.uptoBulk d
  | .lit l => by cases l <;> simp [Rows.uptoBulk]
  | .nil => by simp [Rows.uptoBulk]
  | .ptr d => by simp [Rows.uptoBulk]
  | .slice a b => by simp [Rows.uptoBulk]
  | .agg a => by simp [Rows.uptoBulk]
  | .iface _ d => by simp [Rows.uptoBulk]
  | .map a => by simp [Rows.uptoBulk]
  | .held _ => by simp [Rows.uptoBulk]
theorem bulk_len {H : Type} : ∀ l : List (DataW H), l.length ≤ Rows.uptoBulkAll l
  | [] => by simp [Rows.uptoBulkAll]
  | d :: r => by
    have h1 := bulk_pos d
    have h2 := bulk_len r
    simp only [Rows.uptoBulkAll, List.length_cons]
    omega
theorem bulk_slice {H : Type} {d : DataW H} (h : Rows.uptoBulk d ≤ 1048576) (elems spare : List (DataW H)) (e : d = .slice elems spare) : elems.length + spare.length ≤ 1048576 := by
  subst e
  have h1 := bulk_len elems
  have h2 := bulk_len spare
  simp only [Rows.uptoBulk] at h
  omega

theorem open_op {H : Type} {enc : TypeId × Value → H} {W : World} {fuel : Nat} {cs : List Value} {y : DataW H × List MemPlace}
    (hf : DataW.trod enc Try.prog W 0 (fun _ => true) true fuel 65 cs = some y) : ∃ (a b c d e : Int) (x : Nat) (f : Int), cs = [.int .i64 a, .int .i64 b, .int .i64 c, .int .i64 d, .int .i64 e, .int .u32 (x : Int), .int .i64 f] ∧ x ≤ 4294967295 := by
  obtain ⟨xs, n, _, rfl, hl, hlen, hx⟩ := DataW.trod_struct Try.underlying65 hf
  rw [cellsO] at hl
  obtain ⟨c0, c1, c2, c3, c4, c5, c6, rfl⟩ := seven_cells hl
  have h0 : DataW.trod enc Try.prog W 0 (fun _ => true) true n 3 [c0] = xs[0]? := by have := hx 0 _ rfl; simpa [cellsI, cellsU] using this
  have h1 : DataW.trod enc Try.prog W 0 (fun _ => true) true n 3 [c1] = xs[1]? := by have := hx 1 _ rfl; simpa [cellsI, cellsU] using this
  have h2 : DataW.trod enc Try.prog W 0 (fun _ => true) true n 3 [c2] = xs[2]? := by have := hx 2 _ rfl; simpa [cellsI, cellsU] using this
  have h3 : DataW.trod enc Try.prog W 0 (fun _ => true) true n 3 [c3] = xs[3]? := by have := hx 3 _ rfl; simpa [cellsI, cellsU] using this
  have h4 : DataW.trod enc Try.prog W 0 (fun _ => true) true n 3 [c4] = xs[4]? := by have := hx 4 _ rfl; simpa [cellsI, cellsU] using this
  have h5 : DataW.trod enc Try.prog W 0 (fun _ => true) true n 26 [c5] = xs[5]? := by have := hx 5 _ rfl; simpa [cellsI, cellsU] using this
  have h6 : DataW.trod enc Try.prog W 0 (fun _ => true) true n 3 [c6] = xs[6]? := by have := hx 6 _ rfl; simpa [cellsI, cellsU] using this
  have hs : xs.length = 7 := by simpa using hlen
  obtain ⟨y0, e0⟩ : ∃ y, xs[0]? = some y := ⟨xs[0], List.getElem?_eq_getElem (by omega)⟩
  rw [e0] at h0
  obtain ⟨y1, e1⟩ : ∃ y, xs[1]? = some y := ⟨xs[1], List.getElem?_eq_getElem (by omega)⟩
  rw [e1] at h1
  obtain ⟨y2, e2⟩ : ∃ y, xs[2]? = some y := ⟨xs[2], List.getElem?_eq_getElem (by omega)⟩
  rw [e2] at h2
  obtain ⟨y3, e3⟩ : ∃ y, xs[3]? = some y := ⟨xs[3], List.getElem?_eq_getElem (by omega)⟩
  rw [e3] at h3
  obtain ⟨y4, e4⟩ : ∃ y, xs[4]? = some y := ⟨xs[4], List.getElem?_eq_getElem (by omega)⟩
  rw [e4] at h4
  obtain ⟨y5, e5⟩ : ∃ y, xs[5]? = some y := ⟨xs[5], List.getElem?_eq_getElem (by omega)⟩
  rw [e5] at h5
  obtain ⟨y6, e6⟩ : ∃ y, xs[6]? = some y := ⟨xs[6], List.getElem?_eq_getElem (by omega)⟩
  rw [e6] at h6
  obtain ⟨z0, q0, _, w0⟩ := DataW.trod_int Try.underlying3 h0
  obtain ⟨z1, q1, _, w1⟩ := DataW.trod_int Try.underlying3 h1
  obtain ⟨z2, q2, _, w2⟩ := DataW.trod_int Try.underlying3 h2
  obtain ⟨z3, q3, _, w3⟩ := DataW.trod_int Try.underlying3 h3
  obtain ⟨z4, q4, _, w4⟩ := DataW.trod_int Try.underlying3 h4
  obtain ⟨z5, q5, _, w5⟩ := DataW.trod_int Try.underlying26 h5
  obtain ⟨z6, q6, _, w6⟩ := DataW.trod_int Try.underlying3 h6
  simp only [List.cons.injEq, and_true] at q0 q1 q2 q3 q4 q5 q6
  subst q0 q1 q2 q3 q4 q5 q6
  have b5 := bounds_u32 w5
  refine ⟨z0, z1, z2, z3, z4, z5.toNat, z6, ?_, by omega⟩
  rw [show ((z5.toNat : Nat) : Int) = z5 by omega]

set_option maxRecDepth 100000 in
theorem open_ops {H : Type} {enc : TypeId × Value → H} {W : World} {a : Option Addr} {len cap : Nat} {d : DataW H} {p : List MemPlace}
    (h : DataW.Trod enc Try.prog W 0 (fun _ => true) true 50 (.slice a len cap) d p) (hsz : ∀ elems spare, d = .slice elems spare → elems.length + spare.length ≤ 1048576) : Ops W a len ∧ len ≤ 1048576 := by
  obtain ⟨fuel, hf⟩ := h
  rcases Deep.open_slice Try.underlying50 hf with ⟨hcs, _⟩ | ⟨x, len', cap', m, n, D, Pl, hcs, _, hl, hm, hmm, hx, hel⟩
  · simp [Value.cells] at hcs
    obtain ⟨rfl, rfl, rfl⟩ := hcs
    exact ⟨fun k hk => by omega, by omega⟩
  · simp [Value.cells] at hcs
    obtain ⟨rfl, rfl, rfl⟩ := hcs
    simp only [if_true] at hmm
    subst hmm
    simp only [Prod.mk.injEq] at hx
    have hs := hsz _ _ hx.1
    simp only [List.length_map, List.length_range] at hs
    refine ⟨fun k hk => ?_, by omega⟩
    obtain ⟨cs', h1, h2⟩ := hel k (by omega)
    rw [cellsO] at h1
    obtain ⟨ka, kb, kc, kd, ke, kx, kf, e, hkx⟩ := open_op h2
    subst e
    have hc := (World.cells?_some h1).2.2
    obtain ⟨g, off, sp⟩ := x
    have g0 := hc 0 (by simp)
    have g1 := hc 1 (by simp)
    have g2 := hc 2 (by simp)
    have g3 := hc 3 (by simp)
    have g4 := hc 4 (by simp)
    have g5 := hc 5 (by simp)
    have g6 := hc 6 (by simp)
    have hs : sp = none := by
      obtain ⟨cs0, q1, q2⟩ := hel 0 (by omega)
      rw [cellsO] at q1
      obtain ⟨ka0, kb0, kc0, kd0, ke0, kx0, kf0, e0, _⟩ := open_op q2
      subst e0
      have q0 := (World.cells?_some q1).2.2 0 (by simp)
      simp [Addr.add] at q0
      exact World.cell?_spot q0
    subst hs
    have q0 : W.cell? ⟨g, off + k * 7, none⟩ = some (.int .i64 ka) := by have := addadd g off (k * 7) 0; rw [Nat.add_zero] at this; rw [← this]; exact g0
    exact ⟨g, off, rfl, ka, kb, kc, kd, ke, kx, kf, q0, by rw [← addadd g off (k * 7) 1]; exact g1, by rw [← addadd g off (k * 7) 2]; exact g2, by rw [← addadd g off (k * 7) 3]; exact g3, by rw [← addadd g off (k * 7) 4]; exact g4, by rw [← addadd g off (k * 7) 5]; exact g5, by rw [← addadd g off (k * 7) 6]; exact g6, hkx⟩

theorem small {H : Type} {d0 d1 d2 : DataW H} (hk : Rows.uptoSmall H [d0, d1, d2] = true) : Rows.uptoBulk d2 ≤ 1048576 := by
  have h : Rows.uptoBulkAll [d0, d1, d2] ≤ 1048576 := of_decide_eq_true hk
  simp only [Rows.uptoBulkAll] at h
  omega

theorem contract (H : Type) (enc : TypeId × Value → H) (W : World) (base : Nat) (args : Array Value) (ds gs : List (DataW H)) (before : List MemPlace)
    (hval : ∀ (j : Nat) t v, Try.f7.params[j]? = some t → args[j]? = some v → Value.okWide Try.prog W .any base t v)
    (hW : DataW.Whole enc Try.prog Try.f7.params.toList Rows.rcencPlaysSpec.vars false W args.toList ds gs before) (hk : Rows.uptoSmall H (ds ++ gs) = true) :
    Calls Try.prog 7 args W fun e W' => ∃ v, e = .returned v ∧ Rows.rcencPlaysSpec.post enc Try.prog Try.f7 false true false false W args v W' := by
  have hW' := hW
  obtain ⟨p, q, hA0, hV, rfl, hfz, hnd⟩ := hW
  have hA : DataW.TrodAll enc Try.prog W 0 (fun _ => true) true Try.f7.params.toList args.toList ds p := hA0
  rw [Try.params7] at hA hval
  obtain ⟨v0, vs0, d0, ds0, p0, q0, hargs, rfl, rfl, h0, r0⟩ := trodAll_cons hA
  obtain ⟨v1, vs1, d1, ds1, p1, q1, rfl, rfl, rfl, h1, r1⟩ := trodAll_cons r0
  obtain ⟨v2, vs2, d2, ds2, p2, q2, rfl, rfl, rfl, h2, r2⟩ := trodAll_cons r1
  obtain ⟨rfl, rfl, rfl⟩ := trodAll_nil r2
  obtain rfl : args = #[v0, v1, v2] := by cases args; simp_all
  obtain ⟨rfl, rfl⟩ := trodVars_none hV
  obtain ⟨a0, rfl, rfl, rfl, w0⟩ := open_int Try.underlying3 (hval 0 3 v0 rfl rfl) h0
  obtain ⟨a1, rfl, rfl, rfl, w1⟩ := open_int Try.underlying3 (hval 1 3 v1 rfl rfl) h1
  obtain ⟨a2, len2, cap2, rfl⟩ := okWide_slice Try.underlying50 (hval 2 50 v2 rfl rfl)
  have k2 := h2
  have lt2 : ∀ x ∈ p2, x.block < W.heap.size := by obtain ⟨m, hm⟩ := k2; exact DataW.trod_lt m _ _ _ hm
  clear hA0
  rw [List.append_nil] at hk
  have s2 := small hk
  obtain ⟨hb2, hn2⟩ := open_ops h2 (bulk_slice s2)
  refine (plays_any a0 a1 a2 len2 cap2 W hb2 hn2).mono fun e W' ⟨he, hCC⟩ => ?_
  subst he
  have bel := below_of hCC
  exact ⟨_, rfl, _, _, _, [], _, [], hW', trodAll_mk1 (shut_bool Try.underlying4 _), (trodAll_cons_mk (shut_int Try.underlying3 w0) (trodAll_cons_mk (shut_int Try.underlying3 w1) (trodAll_cons_mk (Below.trod laidOut (by kernel_rfl) (of_decide_eq_true (by kernel_rfl)) k2 bel lt2) trodAll_mk0))), rfl, bel.frame _, fun h => by cases h⟩

set_option maxRecDepth 100000 in
theorem lifted (os : Os) (started : os.Started) (H : Type) (enc : TypeId × Value → H) (F : Stop.Interp) :
    ReturnsInHanded {} Try.checked os 7 .any ((Rows.OpenSpec.upto Rows.rcencPlaysSpec).pre6 enc Try.prog Try.f7 Rows.rcencPlaysUptoRow.domain false) (((Rows.OpenSpec.upto Rows.rcencPlaysSpec).at F).post enc Try.prog Try.f7 false true false false) := by
  refine returnsInHanded_of_cond (C := Try.checked) (s := Rows.OpenSpec.upto Rows.rcencPlaysSpec) (k := Rows.uptoSmall) rfl own started (by kernel_rfl) Try.func7
    (OpenSpec.witness (enc := enc) (C := Try.checked) (s := Rows.OpenSpec.upto Rows.rcencPlaysSpec) (k := Rows.uptoSmall) rfl false ⟨#[], #[.int .i64 0, .int .i64 0, .slice none 0 0], []⟩ 8 (by kernel_rfl) (by kernel_rfl) (by kernel_rfl)
      (x := ([.lit (.int .i64 0), .lit (.int .i64 0), .nil], [], [])) (by kernel_rfl) rfl (by kernel_rfl)) ?_
  intro W base args ds gs before hval hW _ hk _
  exact contract H enc W base args ds gs before hval hW hk

theorem over : Rows.rcencPlaysUptoRow.holds Try.pinned (Rows.OpenSpec.upto Rows.rcencPlaysSpec) :=
  OpenClaim.holds_of_cond 7 Try.f7 rfl rfl rfl rfl rfl rfl rfl ⟨rfl, rfl, rfl, rfl, rfl⟩ rfl rfl rfl rfl rfl (by kernel_rfl) Try.func7 (by kernel_rfl)
    (of_decide_eq_true (by kernel_rfl)) (by unfold Func.isWrapper; first | (rw [if_pos (by decide +kernel)]; kernel_rfl) | (rw [if_neg (by decide +kernel)]; exact ⟨rfl, rfl⟩))
    (fun os started H enc _ F => lifted os started H enc F)
end Go.Proofs.Ythhjllhcgdkjnaa.rcencPlays
namespace Go.Proofs.Ythhjllhcgdkjnaa
theorem rcencPlays_holds : Rows.RcencPlaysUptoSaid := rcencPlays.over
#print axioms rcencPlays_holds
end Go.Proofs.Ythhjllhcgdkjnaa
