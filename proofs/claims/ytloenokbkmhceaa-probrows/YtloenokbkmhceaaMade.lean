/- One more row, made: the contract of made; of no statement by itself. -/
import Derived.Test.YtloenokbkmhceaaPlay
namespace Go.Proofs.Ytloenokbkmhceaa
open Go.RowKit
set_option linter.unusedVariables false

theorem infoPS : (Try.prog.info? 28).map (fun i => (i.zero, i.size, i.bytes)) = some (some (.pointer none), 1, 8) := by kernel_rfl
theorem infoPR : (Try.prog.info? 54).map (fun i => (i.zero, i.size, i.bytes)) = some (some (.pointer none), 1, 8) := by kernel_rfl

theorem from_one (w : World) (x : Value) (t : TypeId) : From (w.alloc (.cells #[x] t)) (some ⟨w.heap.size, 0, none⟩) 1 1 1 [x] := by
  refine ⟨rfl, .inr ⟨_, rfl, fun j u hu => ?_⟩⟩
  have hb : (w.alloc (.cells #[x] t)).heap[w.heap.size]? = some (.cells #[x] t (0, 0)) := heap_alloc_last _ _
  match j, hu with
  | 0, hu =>
    simp at hu
    subst hu
    rw [addk]
    exact cell00 hb

theorem set_size (w : World) (p : Addr) (v : Value) : (w.setCell p v).heap.size = w.heap.size := by simp [World.setCell]
theorem from_set (w : World) (P : Nat) (v x : Value) (t : TypeId) : From ((w.setCell ⟨P, 0, none⟩ v).alloc (.cells #[x] t)) (some ⟨w.heap.size, 0, none⟩) 1 1 1 [x] := by
  have h := from_one (w.setCell ⟨P, 0, none⟩ v) x t
  rw [set_size] at h
  exact h

/-- The pair of lists, whatever is in them. -/
structure Two (w0 w : World) (P : Nat) (av bv : Value) (la lb : List Value) : Prop where
  pair : w.heap[P]? = some (.cells #[av, bv] 46 (0, 0))
  ra : w.ownsRow w0.heap.size 28 1 av la.length la
  rb : w.ownsRow w0.heap.size 54 1 bv lb.length lb

theorem Play.two {w0 w : World} {P : Nat} {av bv : Value} {its : List It} (h : Play w0 w P av bv its) : Two w0 w P av bv (its.map ptrA) (its.map ptrR) :=
  ⟨h.pair, by simpa using h.ra, by simpa using h.rb⟩
theorem Two.new {w0 w w' : World} {P : Nat} {av bv : Value} {la lb : List Value} (h : Two w0 w P av bv la lb) (hc : Chg (fun _ => False) w w') : Two w0 w' P av bv la lb :=
  ⟨blk_keep h.pair hc (fun f => f), ownsRow_keep h.ra hc (fun _ _ f => f), ownsRow_keep h.rb hc (fun _ _ f => f)⟩

/-- One more in the first list. -/
theorem Two.a {w0 w w1 w3 : World} {P : Nat} {av bv v3 x : Value} {la lb : List Value} (h : Two w0 w P av bv la lb) (c1 : Chg (fun _ => False) w w1) (ho : w3.ownsRow w0.heap.size 28 1 v3 (la.length + 1) (la ++ [x])) (hg : w1.grownBy w3 av.ownBlock) :
    w3.heap[P]? = some (.cells #[av, bv] 46 (0, 0)) ∧ Two w0 (w3.setCell ⟨P, 0, none⟩ v3) P v3 bv (la ++ [x]) lb ∧ Chg (Grows P av bv) w (w3.setCell ⟨P, 0, none⟩ v3) := by
  have h1 := h.new c1
  have c3 : Chg (fun z => av.ownBlock = some z) w1 w3 := (Chg.refl _ w1).grown hg (fun k e => .inl e)
  have hp3 : w3.heap[P]? = some (.cells #[av, bv] 46 (0, 0)) := blk_keep h1.pair c3 (fun e => by obtain ⟨cur, hcur⟩ := owns_blk h1.ra e; exact ty_ne hcur h1.pair (by decide))
  have hb3 : w3.ownsRow w0.heap.size 54 1 bv lb.length lb := ownsRow_keep h1.rb c3 (fun g e e2 => by obtain ⟨cur, hcur⟩ := owns_blk h1.rb e; obtain ⟨cur2, hcur2⟩ := owns_blk h1.ra e2; exact ty_ne hcur hcur2 (by decide))
  have cs : Chg (fun z => z = P) w3 (w3.setCell ⟨P, 0, none⟩ v3) := (Chg.refl (fun z => z = P) w3).setCell (p := ⟨P, 0, none⟩) (.inl rfl) _
  refine ⟨hp3, ⟨blk_set0 hp3, ?_, ?_⟩, ?_⟩
  · rw [List.length_append]
    exact ownsRow_keep ho cs (fun g e e2 => by obtain ⟨cur, hcur⟩ := owns_blk ho e; rw [e2] at hcur; exact ty_ne hcur hp3 (by decide))
  · exact ownsRow_keep hb3 cs (fun g e e2 => by obtain ⟨cur, hcur⟩ := owns_blk hb3 e; rw [e2] at hcur; exact ty_ne hcur hp3 (by decide))
  · exact ((c1.mono (T := Grows P av bv) (fun _ f => f.elim)).trans c3 (fun i e => .inl (.inr (.inl e)))).trans cs (fun i e => .inl (.inl e))

/-- One more in the second list. -/
theorem Two.b {w0 w w1 w3 : World} {P : Nat} {av bv v3 x : Value} {la lb : List Value} (h : Two w0 w P av bv la lb) (c1 : Chg (fun _ => False) w w1) (ho : w3.ownsRow w0.heap.size 54 1 v3 (lb.length + 1) (lb ++ [x])) (hg : w1.grownBy w3 bv.ownBlock) :
    w3.heap[P]? = some (.cells #[av, bv] 46 (0, 0)) ∧ Two w0 (w3.setCell ⟨P, 1, none⟩ v3) P av v3 la (lb ++ [x]) ∧ Chg (fun z => z = P ∨ bv.ownBlock = some z) w (w3.setCell ⟨P, 1, none⟩ v3) := by
  have h1 := h.new c1
  have c3 : Chg (fun z => bv.ownBlock = some z) w1 w3 := (Chg.refl _ w1).grown hg (fun k e => .inl e)
  have hp3 : w3.heap[P]? = some (.cells #[av, bv] 46 (0, 0)) := blk_keep h1.pair c3 (fun e => by obtain ⟨cur, hcur⟩ := owns_blk h1.rb e; exact ty_ne hcur h1.pair (by decide))
  have ha3 : w3.ownsRow w0.heap.size 28 1 av la.length la := ownsRow_keep h1.ra c3 (fun g e e2 => by obtain ⟨cur, hcur⟩ := owns_blk h1.ra e; obtain ⟨cur2, hcur2⟩ := owns_blk h1.rb e2; exact ty_ne hcur hcur2 (by decide))
  have cs : Chg (fun z => z = P) w3 (w3.setCell ⟨P, 1, none⟩ v3) := (Chg.refl (fun z => z = P) w3).setCell (p := ⟨P, 1, none⟩) (.inl rfl) _
  refine ⟨hp3, ⟨blk_set1 hp3, ?_, ?_⟩, ?_⟩
  · exact ownsRow_keep ha3 cs (fun g e e2 => by obtain ⟨cur, hcur⟩ := owns_blk ha3 e; rw [e2] at hcur; exact ty_ne hcur hp3 (by decide))
  · rw [List.length_append]
    exact ownsRow_keep ho cs (fun g e e2 => by obtain ⟨cur, hcur⟩ := owns_blk ho e; rw [e2] at hcur; exact ty_ne hcur hp3 (by decide))
  · exact ((c1.mono (T := fun z => z = P ∨ bv.ownBlock = some z) (fun _ f => f.elim)).trans c3 (fun i e => .inl (.inr e))).trans cs (fun i e => .inl (.inl e))

theorem one_ptr (x : Value) (h : x.oneCell' = true) : ∀ u ∈ [x], u.oneCell' = true := fun u hu => by simp at hu; subst hu; exact h

theorem made_out (P : Nat) (i : Int) (w : World) (hi : i < 0 ∨ 1048576 < i) : Calls Try.prog 27 #[.pointer (some ⟨P, 0, none⟩), .int .i64 i] w fun e w' => e = .returned (.bool true) ∧ w = w' := by
  go_enter Try.func27, Try.ntmps27
  go_wp2_with fail
  refine (new_out i _ hi).mono ?_
  rintro e w1 ⟨rfl, rfl⟩
  go_wp2_with fail
  refine (rnew_out i _ hi).mono ?_
  rintro e w1 ⟨rfl, rfl⟩
  go_wp2
  go_ret
  exact ⟨rfl, rfl⟩

set_option maxHeartbeats 2000000 in
set_option maxRecDepth 100000 in
theorem made_in (w0 w : World) (P : Nat) (av bv : Value) (its : List It) (m : Nat) (h : Play w0 w P av bv its) (hm : m ≤ 1048576) (hn : its.length ≤ 4398046510976) : Calls Try.prog 27 #[.pointer (some ⟨P, 0, none⟩), .int .i64 m] w fun e w' => e = .returned (.bool true) ∧ ∃ av' bv' x, Play w0 w' P av' bv' (its ++ [x]) := by
  obtain ⟨i0, hi, hz0, hz1, hz2⟩ := info_parts infoPS
  obtain ⟨i1, hi', hz0', hz1', hz2'⟩ := info_parts infoPR
  have HP : Hid (Play w0 w P av bv its) := h
  clear h
  go_enter Try.func27, Try.ntmps27
  go_wp2_with fail
  refine (new_in m _ hm).mono ?_
  rintro e w1 ⟨a, v, rfl, ha, h1, c1⟩
  go_wp2_with fail
  refine (rnew_in m _ hm).mono ?_
  rintro e w2 ⟨r, u, rfl, hr, h2, c2⟩
  have HP2 := HP.out.new (chg_then c1 c2)
  have HC12 : Hid (Chg (fun _ => False) w w2) := chg_then c1 c2
  have HS : Hid (St w2 w.heap.size a v (List.replicate m 1024)) := h1.new c2
  have HR : Hid (Rt w2 w1.heap.size r (m : Int) u (List.replicate m 1024)) := h2
  have hs1 : w.heap.size ≤ w1.heap.size := c1.size
  have T2 := HP2.two
  have hs0 : w0.heap.size ≤ w.heap.size := HP.out.chg.size
  have hs2 : w0.heap.size ≤ w2.heap.size := HP2.chg.size
  clear c1 c2 h1 h2 HP2
  have hLa : (its.map ptrA).length = its.length := by simp
  have hLb : (its.map ptrR).length = its.length := by simp
  obtain ⟨aad, acap, hav, _⟩ := own_any T2.ra
  obtain ⟨bad, bcap, hbv, _⟩ := own_any T2.rb
  have HT2 : Hid (Two w0 w2 P av bv (its.map ptrA) (its.map ptrR)) := T2
  have HAV : Hid (av = .slice aad (its.map ptrA).length acap) := hav
  have HBV : Hid (bv = .slice bad (its.map ptrR).length bcap) := hbv
  rw [hav] at T2
  have pa := cell0 T2.pair
  have la := lt_of_blk T2.pair
  have hra := T2.ra.alloc (.cells #[.pointer (some ⟨a, 0, none⟩)] 28)
  clear T2 hav hbv
  generalize hLA : its.map ptrA = LA at *
  generalize hLB : its.map ptrR = LB at *
  have HLA : Hid (its.map ptrA = LA) := hLA
  have HLB : Hid (its.map ptrR = LB) := hLB
  clear hLA hLB
  rw [hLa] at *
  rw [hLb] at *
  clear hLa hLb
  have HA : Hid (LA.length = its.length) := by show _ = _; rw [← HLA.out]; simp
  have HB : Hid (LB.length = its.length) := by show _ = _; rw [← HLB.out]; simp
  have hfr1 := from_one w2 (.pointer (some ⟨a, 0, none⟩)) 28
  have ho1 := one_ptr (.pointer (some ⟨a, 0, none⟩)) rfl
  have hsz1 : w0.heap.size ≤ (w2.alloc (.cells #[.pointer (some ⟨a, 0, none⟩)] 28)).heap.size := by simp; omega
  go_wp2_with (at_builtin; refine wpList_append_moved rfl _ _ 43 rfl w0.heap.size 28 i0 (.pointer none) 1 8 Try.underlying43 hi hz0 hz1 hz2 rfl (by decide) _ its.length LA rfl (some ⟨w2.heap.size, 0, none⟩) 1 1 rfl [.pointer (some ⟨a, 0, none⟩)] hra hfr1 ho1 (by unfold maxLen; omega) (by omega) hsz1 ?_)
  intro v3 w3 ho3 hg3 hm3
  rw [← HAV.out] at hg3
  obtain ⟨hp3, T4, c4⟩ := HT2.out.a (chg_one w2 (.cells #[.pointer (some ⟨a, 0, none⟩)] 28)) (by rw [HA.out]; exact ho3) hg3
  obtain ⟨ad3, cap3, hv3, _⟩ := own_any ho3
  have HV3 : Hid (v3 = .slice ad3 (its.length + 1) cap3) := hv3
  have HT4 : Hid (Two w0 (w3.setCell ⟨P, 0, none⟩ v3) P v3 bv (LA ++ [.pointer (some ⟨a, 0, none⟩)]) LB) := T4
  have HC4 : Hid (Chg (Grows P av bv) w2 (w3.setCell ⟨P, 0, none⟩ v3)) := c4
  have hs4 : w0.heap.size ≤ (w3.setCell ⟨P, 0, none⟩ v3).heap.size := by have := c4.size; omega
  have p0 : w3.cell? ⟨P, 0, none⟩ = some av := cell0 hp3
  have f0 : w3.frozen? ⟨P, 0, none⟩ = false := free0 hp3
  have p1 : w3.cell? ⟨P, 1, none⟩ = some bv := cell1 hp3
  rw [HBV.out] at T4 p1
  have q1 := cell1 T4.pair
  have hrb := T4.rb.alloc (.cells #[.pointer (some ⟨r, 0, none⟩)] 54)
  have hfr2 : From ((w3.setCell ⟨P, 0, none⟩ v3).alloc (.cells #[.pointer (some ⟨r, 0, none⟩)] 54)) (some ⟨w3.heap.size, 0, none⟩) 1 1 1 [.pointer (some ⟨r, 0, none⟩)] := from_set w3 P v3 _ _
  have ho2 := one_ptr (.pointer (some ⟨r, 0, none⟩)) rfl
  have hsz2 : w0.heap.size ≤ ((w3.setCell ⟨P, 0, none⟩ v3).alloc (.cells #[.pointer (some ⟨r, 0, none⟩)] 54)).heap.size := by have := (chg_one (w3.setCell ⟨P, 0, none⟩ v3) (.cells #[.pointer (some ⟨r, 0, none⟩)] 54)).size; omega
  rw [HB.out] at hrb
  subst hv3
  clear ho3 hg3 hm3 T4 c4 hra hfr1 ho1 hsz1 pa la hp3
  go_wp2_with (at_builtin; refine wpList_append_moved rfl _ _ 44 rfl w0.heap.size 54 i1 (.pointer none) 1 8 Try.underlying44 hi' hz0' hz1' hz2' rfl (by decide) _ its.length LB rfl _ 1 1 rfl [.pointer (some ⟨r, 0, none⟩)] hrb hfr2 ho2 (by unfold maxLen; omega) (by omega) hsz2 ?_)
  intro v5 w5 ho5 hg5 hm5
  rw [← HBV.out] at hg5
  obtain ⟨hp5, T6, c6⟩ := HT4.out.b (chg_one (w3.setCell ⟨P, 0, none⟩ (.slice ad3 (its.length + 1) cap3)) (.cells #[.pointer (some ⟨r, 0, none⟩)] 54)) (by rw [HB.out]; exact ho5) hg5
  obtain ⟨ad5, cap5, hv5, _⟩ := own_any ho5
  have p0' := cell0 hp5
  have p1' := cell1 hp5
  have f1' := free1 hp5
  have HT6 : Hid (Two w0 (w5.setCell ⟨P, 1, none⟩ v5) P (.slice ad3 (its.length + 1) cap3) v5 (LA ++ [.pointer (some ⟨a, 0, none⟩)]) (LB ++ [.pointer (some ⟨r, 0, none⟩)])) := T6
  have HC6 : Hid (Chg (Grows P av bv) w2 (w5.setCell ⟨P, 1, none⟩ v5)) := HC4.out.trans c6 (fun i e => .inl (by
    rcases e with e | e
    · exact .inl e
    · exact .inr (.inr e)))
  subst hv5
  clear ho5 hg5 hm5 T6 c6 hrb hfr2 ho2 hsz2 hp5 HT4 HC4 p0 f0 p1 q1 hs4
  go_wp2
  go_ret
  refine ⟨rfl, _, _, ⟨a, r, v, (m : Int), u, List.replicate m 1024⟩, HP.out.push HC12.out ⟨⟨by show w0.heap.size ≤ a; omega, HS.out.blk, owns_base HS.out.own hs0⟩, ⟨by show w0.heap.size ≤ r; omega, HR.out.blk, owns_base HR.out.own (by omega)⟩, In.half m, by simpa using hm⟩ ha (by show w.heap.size ≤ r; omega) (fun g e => (HS.out.own.lt g e).1) (fun g e => by have := (HR.out.own.lt g e).1; omega) HC6.out HT6.out.pair ?_ ?_⟩
  · have h := HT6.out.ra
    rw [List.length_append, HA.out] at h
    rw [HLA.out]
    exact h
  · have h := HT6.out.rb
    rw [List.length_append, HB.out] at h
    rw [HLB.out]
    exact h
end Go.Proofs.Ytloenokbkmhceaa
