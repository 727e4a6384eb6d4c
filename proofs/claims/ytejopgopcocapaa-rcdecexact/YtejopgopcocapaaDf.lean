/- The calls that Bit and Direct defer: they set back what was given up; of no statement by themselves. -/
import Derived.Test.YtejopgopcocapaaDe2
import Derived.Defers
import Derived.Recover
namespace Go.Proofs.Ytejopgopcocapaa
open Go.RowKit
set_option linter.unusedVariables false

theorem set4 {w : World} {a : Nat} {x0 x1 x2 x3 y0 y1 y2 y3 : Value} {t : TypeId} (h : w.heap[a]? = some (.cells #[x0, x1, x2, x3] t (0, 0))) :
    ((((w.setCell ⟨a, 0, none⟩ y0).setCell ⟨a, 1, none⟩ y1).setCell ⟨a, 2, none⟩ y2).setCell ⟨a, 3, none⟩ y3).heap[a]? = some (.cells #[y0, y1, y2, y3] t (0, 0)) ∧ Chg (fun z => z = a) w ((((w.setCell ⟨a, 0, none⟩ y0).setCell ⟨a, 1, none⟩ y1).setCell ⟨a, 2, none⟩ y2).setCell ⟨a, 3, none⟩ y3) := by
  have c1 : Chg (fun z => z = a) w ((((w.setCell ⟨a, 0, none⟩ y0).setCell ⟨a, 1, none⟩ y1).setCell ⟨a, 2, none⟩ y2).setCell ⟨a, 3, none⟩ y3) := ((((Chg.refl (fun z => z = a) w).setCell (p := ⟨a, 0, none⟩) (.inl rfl) _).setCell (p := ⟨a, 1, none⟩) (.inl rfl) _).setCell (p := ⟨a, 2, none⟩) (.inl rfl) _).setCell (p := ⟨a, 3, none⟩) (.inl rfl) _
  have b1 := blk_setk (l := [x0, x1, x2, x3]) h 0 y0
  have b2 := blk_setk (l := [y0, x1, x2, x3]) b1 1 y1
  have b3 := blk_setk (l := [y0, y1, x2, x3]) b2 2 y2
  have b4 := blk_setk (l := [y0, y1, y2, x3]) b3 3 y3
  exact ⟨b4, c1⟩
theorem blk_other {w : World} {a g k : Nat} {o : Obj} {y : Value} (h : w.heap[g]? = some o) (hne : g ≠ a) : (w.setCell ⟨a, k, none⟩ y).heap[g]? = some o := by
  rw [Below.heap_setCell _ _ _ _ hne, h]
/-- What Bit and Direct have put aside: what the decoder was, where it lies, their two results. -/
structure Aside (w : World) (kd : TypeId) (r0 : Value) (a p9 p3 p6 p7 : Nat) (y0 y1 y2 y3 : Value) (e0 : Int) : Prop where
  was : w.heap[p9]? = some (.cells #[y0, y1, y2, y3] 70 (0, 0))
  at_ : w.heap[p3]? = some (.cells #[.pointer (some ⟨a, 0, none⟩)] 27 (0, 0))
  val : w.heap[p6]? = some (.cells #[r0] kd (0, 0))
  err : w.heap[p7]? = some (.cells #[.int .i64 e0] 28 (0, 0))
  n9 : p9 ≠ a ∧ p9 ≠ p6 ∧ p9 ≠ p7
  n3 : p3 ≠ a ∧ p3 ≠ p6 ∧ p3 ≠ p7
  n6 : p6 ≠ a ∧ p6 ≠ p7
  n7 : p7 ≠ a
theorem Aside.keep {w w' : World} {S : Nat → Prop} {kd : TypeId} {r0 : Value} {a p9 p3 p6 p7 : Nat} {y0 y1 y2 y3 : Value} {e0 : Int} (h : Aside w kd r0 a p9 p3 p6 p7 y0 y1 y2 y3 e0) (hc : Chg S w w') (h9 : ¬ S p9) (h3 : ¬ S p3) (h6 : ¬ S p6) (h7 : ¬ S p7) : Aside w' kd r0 a p9 p3 p6 p7 y0 y1 y2 y3 e0 :=
  ⟨blk_keep h.was hc h9, blk_keep h.at_ hc h3, blk_keep h.val hc h6, blk_keep h.err hc h7, h.n9, h.n3, h.n6, h.n7⟩
theorem Aside.new {w w' : World} {kd : TypeId} {r0 : Value} {a p9 p3 p6 p7 : Nat} {y0 y1 y2 y3 : Value} {e0 : Int} (h : Aside w kd r0 a p9 p3 p6 p7 y0 y1 y2 y3 e0) (hc : Chg (fun _ => False) w w') : Aside w' kd r0 a p9 p3 p6 p7 y0 y1 y2 y3 e0 := h.keep hc (fun f => f) (fun f => f) (fun f => f) (fun f => f)
theorem Aside.deed {w w' : World} {kd : TypeId} {r0 : Value} {a p9 p3 p6 p7 : Nat} {y0 y1 y2 y3 : Value} {e0 : Int} (h : Aside w kd r0 a p9 p3 p6 p7 y0 y1 y2 y3 e0) (hc : Chg (fun z => z = a) w w') : Aside w' kd r0 a p9 p3 p6 p7 y0 y1 y2 y3 e0 := h.keep hc h.n9.1 h.n3.1 h.n6.1 h.n7
theorem Aside.setV {w : World} {kd : TypeId} {r0 : Value} {a p9 p3 p6 p7 : Nat} {y0 y1 y2 y3 : Value} {e0 : Int} (h : Aside w kd r0 a p9 p3 p6 p7 y0 y1 y2 y3 e0) (r : Value) : Aside (w.setCell ⟨p6, 0, none⟩ r) kd r a p9 p3 p6 p7 y0 y1 y2 y3 e0 ∧ Chg (fun z => z = p6) w (w.setCell ⟨p6, 0, none⟩ r) :=
  ⟨⟨blk_other h.was h.n9.2.1, blk_other h.at_ h.n3.2.1, blk_setk (l := [r0]) h.val 0 r, blk_other h.err (Ne.symm h.n6.2), h.n9, h.n3, h.n6, h.n7⟩, (Chg.refl (fun z => z = p6) w).setCell (p := ⟨p6, 0, none⟩) (.inl rfl) _⟩
theorem Aside.setE {w : World} {kd : TypeId} {r0 : Value} {a p9 p3 p6 p7 : Nat} {y0 y1 y2 y3 : Value} {e0 : Int} (h : Aside w kd r0 a p9 p3 p6 p7 y0 y1 y2 y3 e0) (e : Int) : Aside (w.setCell ⟨p7, 0, none⟩ (.int .i64 e)) kd r0 a p9 p3 p6 p7 y0 y1 y2 y3 e ∧ Chg (fun z => z = p7) w (w.setCell ⟨p7, 0, none⟩ (.int .i64 e)) :=
  ⟨⟨blk_other h.was h.n9.2.2, blk_other h.at_ h.n3.2.2, blk_other h.val h.n6.2, blk_setk (l := [.int .i64 e0]) h.err 0 (.int .i64 e), h.n9, h.n3, h.n6, h.n7⟩, (Chg.refl (fun z => z = p7) w).setCell (p := ⟨p7, 0, none⟩) (.inl rfl) _⟩
theorem fr00 {w : World} {a : Nat} {x : Value} {t : TypeId} (h : w.heap[a]? = some (.cells #[x] t (0, 0))) : w.frozen? ⟨a, 0, none⟩ = false := by simp [World.frozen?, h]

set_option maxHeartbeats 1000000 in
set_option maxRecDepth 100000 in
theorem bcatch_idle (p9 p3 p6 p7 : Value) (w : World) : CallsD Try.prog 38 #[p9, p3, p6, p7] .returning w fun e u' w' => e = .returned (.tuple #[]) ∧ u' = .returning ∧ w' = w := by
  refine callsD_of_wpS Try.func38 rfl fun c₀ cs hu => ?_
  apply wpS_seq
  apply wpS_region
  simp [wpOpsS, go_sem, recoverD, hu, Try.ntmps38, Exit.thenS]
  refine wpS_of_wp ?_
  go_wp2
  cases c₀
  simp_all [bodyPostS, results, Try.results38]

set_option maxHeartbeats 2000000 in
set_option maxRecDepth 100000 in
theorem bcatch_gave (a p9 p3 p6 p7 : Nat) (x0 x1 x2 x3 r0 : Value) (ad : Option Addr) (L cap : Nat) (n1 n2 n3 : Int) (e0 e : Int) (w : World) (hA : Aside w 3 r0 a p9 p3 p6 p7 (.slice ad L cap) (.int .i64 n1) (.int .u32 n2) (.int .u32 n3) e0) (hb : w.heap[a]? = some (.cells #[x0, x1, x2, x3] 70 (0, 0))) :
    CallsD Try.prog 38 #[.pointer (some ⟨p9, 0, none⟩), .pointer (some ⟨p3, 0, none⟩), .pointer (some ⟨p6, 0, none⟩), .pointer (some ⟨p7, 0, none⟩)] (.panicking (gave e)) w fun x u' w' => x = .returned (.tuple #[]) ∧ u' = .panicking [{ v := .iface 28 (.int .i64 e), recovered := true }] ∧ Aside w' 3 (.int .i64 0) a p9 p3 p6 p7 (.slice ad L cap) (.int .i64 n1) (.int .u32 n2) (.int .u32 n3) e ∧ w'.heap[a]? = some (.cells #[.slice ad L cap, .int .i64 n1, .int .u32 n2, .int .u32 n3] 70 (0, 0)) ∧ Chg (fun z => z = a ∨ z = p6 ∨ z = p7) w w' := by
  obtain ⟨hs, hc⟩ := set4 (y0 := .slice ad L cap) (y1 := .int .i64 n1) (y2 := .int .u32 n2) (y3 := .int .u32 n3) hb
  have hA1 := hA.deed hc
  obtain ⟨hA2, hc2⟩ := hA1.setV ((.int .i64 0))
  obtain ⟨hA3, hc3⟩ := hA2.setE e
  have HA : Hid (Aside _ 3 (.int .i64 0) a p9 p3 p6 p7 (.slice ad L cap) (.int .i64 n1) (.int .u32 n2) (.int .u32 n3) e) := hA3
  have HB : Hid _ := blk_other (k := 0) (y := .int .i64 e) (blk_other (k := 0) (y := (.int .i64 0)) hs (Ne.symm hA.n6.1)) (Ne.symm hA.n7)
  have HC : Hid (Chg (fun z => z = a ∨ z = p6 ∨ z = p7) w _) := ((hc.mono (T := fun z => z = a ∨ z = p6 ∨ z = p7) (fun _ f => .inl (.inl f))).trans hc2 (fun _ f => .inl (.inr (.inl f)))).trans hc3 (fun _ f => .inl (.inr (.inr f)))
  have c6 := cell00 hA1.val
  have f6 := fr00 hA1.val
  have c7 := cell00 hA2.err
  have f7 := fr00 hA2.err
  obtain ⟨w0, w1, w2, w3, _⟩ := rcells4 hA.was
  have c3 := cell00 hA.at_
  obtain ⟨b0, b1, b2, b3, bf⟩ := rcells4 hb
  have bf0 := bf 0
  have bf1 := bf 1
  have bf2 := bf 2
  have bf3 := bf 3
  clear hA hA1 hA2 hA3 hb hs hc hc2 hc3
  refine callsD_of_wpS Try.func38 rfl fun c₀ cs hu => ?_
  apply wpS_seq
  apply wpS_region
  simp [wpOpsS, go_sem, recoverD, hu, Try.ntmps38, Exit.thenS, gave]
  refine wpS_of_wp ?_
  have ht : (#[Value.pointer (some ⟨p9, 0, none⟩), Value.pointer (some ⟨p3, 0, none⟩), Value.pointer (some ⟨p6, 0, none⟩), Value.pointer (some ⟨p7, 0, none⟩)] ++ ((Array.replicate 9 undef).setIfInBounds 1 (Value.iface 28 (.int .i64 e))).setIfInBounds 0 (Value.iface 28 (.int .i64 e))) = #[.pointer (some ⟨p9, 0, none⟩), .pointer (some ⟨p3, 0, none⟩), .pointer (some ⟨p6, 0, none⟩), .pointer (some ⟨p7, 0, none⟩), .iface 28 (.int .i64 e), .iface 28 (.int .i64 e), undef, undef, undef, undef, undef, undef, undef] := rfl
  rw [ht]
  clear ht hu
  go_upto_region 3 with fail
  clear w0 w1 w2 w3 c3 b0 b1 b2 b3 bf bf0 bf1 bf2 bf3
  generalize (((w.setCell ⟨a, 0, none⟩ (.slice ad L cap)).setCell ⟨a, 1, none⟩ (.int .i64 n1)).setCell ⟨a, 2, none⟩ (.int .u32 n2)).setCell ⟨a, 3, none⟩ (.int .u32 n3) = w1 at *
  go_wp2_with fail
  refine (reason_any e _).mono ?_
  rintro x w9 ⟨rfl, rfl⟩
  go_wp2
  exact ⟨rfl, _, rfl, _, results_none rfl _ _ _, rfl, rfl, HA.out, HB.out, HC.out⟩

set_option maxHeartbeats 1000000 in
set_option maxRecDepth 100000 in
theorem dcatch_idle (p9 p3 p6 p7 : Value) (w : World) : CallsD Try.prog 34 #[p9, p3, p6, p7] .returning w fun e u' w' => e = .returned (.tuple #[]) ∧ u' = .returning ∧ w' = w := by
  refine callsD_of_wpS Try.func34 rfl fun c₀ cs hu => ?_
  apply wpS_seq
  apply wpS_region
  simp [wpOpsS, go_sem, recoverD, hu, Try.ntmps34, Exit.thenS]
  refine wpS_of_wp ?_
  go_wp2
  cases c₀
  simp_all [bodyPostS, results, Try.results34]

set_option maxHeartbeats 2000000 in
set_option maxRecDepth 100000 in
theorem dcatch_gave (a p9 p3 p6 p7 : Nat) (x0 x1 x2 x3 r0 : Value) (ad : Option Addr) (L cap : Nat) (n1 n2 n3 : Int) (e0 e : Int) (w : World) (hA : Aside w 38 r0 a p9 p3 p6 p7 (.slice ad L cap) (.int .i64 n1) (.int .u32 n2) (.int .u32 n3) e0) (hb : w.heap[a]? = some (.cells #[x0, x1, x2, x3] 70 (0, 0))) :
    CallsD Try.prog 34 #[.pointer (some ⟨p9, 0, none⟩), .pointer (some ⟨p3, 0, none⟩), .pointer (some ⟨p6, 0, none⟩), .pointer (some ⟨p7, 0, none⟩)] (.panicking (gave e)) w fun x u' w' => x = .returned (.tuple #[]) ∧ u' = .panicking [{ v := .iface 28 (.int .i64 e), recovered := true }] ∧ Aside w' 38 (.int .u32 0) a p9 p3 p6 p7 (.slice ad L cap) (.int .i64 n1) (.int .u32 n2) (.int .u32 n3) e ∧ w'.heap[a]? = some (.cells #[.slice ad L cap, .int .i64 n1, .int .u32 n2, .int .u32 n3] 70 (0, 0)) ∧ Chg (fun z => z = a ∨ z = p6 ∨ z = p7) w w' := by
  obtain ⟨hs, hc⟩ := set4 (y0 := .slice ad L cap) (y1 := .int .i64 n1) (y2 := .int .u32 n2) (y3 := .int .u32 n3) hb
  have hA1 := hA.deed hc
  obtain ⟨hA2, hc2⟩ := hA1.setV ((.int .u32 0))
  obtain ⟨hA3, hc3⟩ := hA2.setE e
  have HA : Hid (Aside _ 38 (.int .u32 0) a p9 p3 p6 p7 (.slice ad L cap) (.int .i64 n1) (.int .u32 n2) (.int .u32 n3) e) := hA3
  have HB : Hid _ := blk_other (k := 0) (y := .int .i64 e) (blk_other (k := 0) (y := (.int .u32 0)) hs (Ne.symm hA.n6.1)) (Ne.symm hA.n7)
  have HC : Hid (Chg (fun z => z = a ∨ z = p6 ∨ z = p7) w _) := ((hc.mono (T := fun z => z = a ∨ z = p6 ∨ z = p7) (fun _ f => .inl (.inl f))).trans hc2 (fun _ f => .inl (.inr (.inl f)))).trans hc3 (fun _ f => .inl (.inr (.inr f)))
  have c6 := cell00 hA1.val
  have f6 := fr00 hA1.val
  have c7 := cell00 hA2.err
  have f7 := fr00 hA2.err
  obtain ⟨w0, w1, w2, w3, _⟩ := rcells4 hA.was
  have c3 := cell00 hA.at_
  obtain ⟨b0, b1, b2, b3, bf⟩ := rcells4 hb
  have bf0 := bf 0
  have bf1 := bf 1
  have bf2 := bf 2
  have bf3 := bf 3
  clear hA hA1 hA2 hA3 hb hs hc hc2 hc3
  refine callsD_of_wpS Try.func34 rfl fun c₀ cs hu => ?_
  apply wpS_seq
  apply wpS_region
  simp [wpOpsS, go_sem, recoverD, hu, Try.ntmps34, Exit.thenS, gave]
  refine wpS_of_wp ?_
  have ht : (#[Value.pointer (some ⟨p9, 0, none⟩), Value.pointer (some ⟨p3, 0, none⟩), Value.pointer (some ⟨p6, 0, none⟩), Value.pointer (some ⟨p7, 0, none⟩)] ++ ((Array.replicate 9 undef).setIfInBounds 1 (Value.iface 28 (.int .i64 e))).setIfInBounds 0 (Value.iface 28 (.int .i64 e))) = #[.pointer (some ⟨p9, 0, none⟩), .pointer (some ⟨p3, 0, none⟩), .pointer (some ⟨p6, 0, none⟩), .pointer (some ⟨p7, 0, none⟩), .iface 28 (.int .i64 e), .iface 28 (.int .i64 e), undef, undef, undef, undef, undef, undef, undef] := rfl
  rw [ht]
  clear ht hu
  go_upto_region 3 with fail
  clear w0 w1 w2 w3 c3 b0 b1 b2 b3 bf bf0 bf1 bf2 bf3
  generalize (((w.setCell ⟨a, 0, none⟩ (.slice ad L cap)).setCell ⟨a, 1, none⟩ (.int .i64 n1)).setCell ⟨a, 2, none⟩ (.int .u32 n2)).setCell ⟨a, 3, none⟩ (.int .u32 n3) = w1 at *
  go_wp2_with fail
  refine (reason_any e _).mono ?_
  rintro x w9 ⟨rfl, rfl⟩
  go_wp2
  exact ⟨rfl, _, rfl, _, results_none rfl _ _ _, rfl, rfl, HA.out, HB.out, HC.out⟩
end Go.Proofs.Ytejopgopcocapaa
