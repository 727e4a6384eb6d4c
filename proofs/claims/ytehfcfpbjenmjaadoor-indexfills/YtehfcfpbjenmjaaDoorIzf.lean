/- The landed index's Size; of no statement by itself. -/
import Derived.Test.YtehfcfpbjenmjaaDoorIze
import Derived.Test.YtehfcfpbjenmjaaDoorBoundD
namespace Go.Proofs.YtehfcfpbjenmjaaDoor
open Go.RowKit
set_option linter.unusedVariables false
set_option linter.unusedSimpArgs false
attribute [local go_sem] Oper.semAt_some
/-- What holds while the numbers come. -/
structure SzI (N : Nat) (w0 : World) (l : List Rec) (ad : Option Addr) (n c wl bn b k : Nat) (Ns : Nat → Prop) (W : World) : Prop where
  cb : W.heap[bn]? = some (.cells #[.int .i64 ((inI l k).length : Int)] 3 (0, 0))
  nb : W.heap[b]? = some (.cells #[.slice ad n c] 23 (0, 0))
  ch : Chg (fun _ => False) w0 W
  ns : ∀ z, Ns z → wl ≤ z
  sz : wl ≤ W.heap.size
  lo : w0.heap.size = N ∧ N ≤ bn ∧ bn < wl ∧ b < wl ∧ b ≠ bn
theorem SzI.go {N : Nat} {w0 : World} {l : List Rec} {ad : Option Addr} {n c wl bn b k : Nat} {Ns : Nat → Prop} {W W' : World} {S : Nat → Prop} (h : SzI N w0 l ad n c wl bn b k Ns W) (hc : Chg S W W') (hS : ∀ z, S z → z ≠ bn ∧ z ≠ b ∧ N ≤ z) : SzI N w0 l ad n c wl bn b k Ns W' :=
  ⟨blk_keep h.cb hc (fun f => (hS _ f).1 rfl), blk_keep h.nb hc (fun f => (hS _ f).2.1 rfl), h.ch.trans hc (fun z f => .inr (by have := h.lo.1; have := (hS _ f).2.2; omega)), h.ns, Nat.le_trans h.sz hc.size, h.lo⟩
theorem SzI.new {N : Nat} {w0 : World} {l : List Rec} {ad : Option Addr} {n c wl bn b k : Nat} {Ns : Nat → Prop} {W W' : World} (h : SzI N w0 l ad n c wl bn b k Ns W) (hc : Chg (fun _ => False) W W') : SzI N w0 l ad n c wl bn b k Ns W' := h.go hc (fun _ f => f.elim)
theorem SzI.turn {N : Nat} {w0 : World} {l : List Rec} {ad : Option Addr} {n c wl bn b k : Nat} {Ns : Nat → Prop} {W W' : World} (h : SzI N w0 l ad n c wl bn b k Ns W) (hc : Turn wl W W') : SzI N w0 l ad n c wl bn b k Ns W' := h.go hc (fun z f => by
  have h1 := f.1
  have := h.lo
  omega)
theorem SzI.more {N : Nat} {w0 : World} {l : List Rec} {ad : Option Addr} {n c wl bn b k : Nat} {Ns Ns' : Nat → Prop} {X Y : World} (h : SzI N w0 l ad n c wl bn b k Ns X) (hc : Chg (fun _ => False) X Y) (g2 : ∀ z, Ns' z → Ns z ∨ X.heap.size ≤ z) : SzI N w0 l ad n c wl bn b k Ns' Y := by
  have h2 := h.new hc
  refine ⟨h2.cb, h2.nb, h2.ch, fun z f => ?_, h2.sz, h2.lo⟩
  rcases g2 z f with e | e
  · exact h.ns z e
  · exact Nat.le_trans h.sz e
theorem SzI.next {N : Nat} {w0 : World} {l : List Rec} {ad : Option Addr} {n c wl bn b k A2 : Nat} {Ns : Nat → Prop} {W : World} (h : SzI N w0 l ad n c wl bn b k Ns W) (hx : (inI l (k + 1)).length = A2) : SzI N w0 l ad n c wl bn b (k + 1) Ns (W.setCell ⟨bn, 0, none⟩ (.int .i64 (A2 : Int))) := by
  have hc : Chg (fun z => z = bn) W (W.setCell ⟨bn, 0, none⟩ (.int .i64 (A2 : Int))) := (Chg.refl (fun z => z = bn) W).setCell (p := ⟨bn, 0, none⟩) (.inl rfl) _
  have hlo := h.lo
  refine ⟨?_, blk_keep h.nb hc (by omega), h.ch.trans hc (fun z f => .inr (by omega)), h.ns, Nat.le_trans h.sz hc.size, hlo⟩
  rw [hx]
  exact Vint.blk_setk (l := [.int .i64 ((inI l k).length : Int)]) h.cb 0 (.int .i64 (A2 : Int))
set_option maxHeartbeats 8000000 in
set_option maxRecDepth 100000 in
theorem size23_any (ad : Option Addr) (n c : Nat) (l : List Rec) (w0 : World) (hT : Vint.Tab w0) (h : RcF w0 ad n c l) (hn : n ≤ 8796093022208) : Calls Tryd.prog 19 #[.slice ad n c] w0 fun e w' => e = .returned (.tuple #[.int .i64 ((Ix23.putI l).1.length : Int), .int .i64 (Ix23.putI l).2]) ∧ Chg (fun _ => False) w0 w' := by
  have HT : Hid (Vint.Tab w0) := hT
  have HL : Hid (RcF w0 ad n c l) := h
  have HLN : Hid (l.length = n) := h.len
  have hni : (n : Int) ≤ 8796093022208 := by omega
  have HN8 : Hid (n ≤ 8796093022208) := hn
  have HX1 : Hid _ := areRight_any ad n c l w0 h (by omega)
  obtain ⟨ok, hok⟩ : ∃ b, Ix23.rightB 0 0 l = b := ⟨_, rfl⟩
  have HOK : Hid (Ix23.rightB 0 0 l = ok) := hok
  rw [hok] at HX1
  obtain ⟨N, hN⟩ : ∃ N, w0.heap.size = N := ⟨_, rfl⟩
  have HNN : Hid (w0.heap.size = N) := hN
  clear h hT hok hn hN
  refine callsIn_wide (n := 0).1 (callsIn_of_wp_marks Tryd.func19 rfl trivial (wpIn_wide.2 ?_))
  simp only [Tryd.ntmps19, List.size_toArray, List.length_cons, List.length_nil, Nat.reduceAdd, Nat.reduceSub, Array.replicate_succ, Array.replicate_zero, List.push_toArray, List.append_toArray, List.nil_append, List.cons_append]
  go_wp2_with fail
  refine Calls.mono HX1.out ?_
  rintro z w2 ⟨rfl, c2⟩
  have HC2 : Hid (Chg (fun _ => False) w0 w2) := c2
  clear c2 HX1
  cases ok
  · have HE : Hid (Ix23.putI l = ([], 7)) := Ix23.putI_7 (by rw [HOK.out]; simp)
    go_wp2
    refine ⟨.tuple #[.int .i64 0, .int .i64 7], by simp [results, Tryd.results19, go_sem], ?_⟩
    exact ⟨(by rw [HE.out]; rfl), HC2.out⟩
  · have hcroom := core_room HOK.out (by rw [HLN.out]; exact HN8.out)
    have hzp := Ix23.zpad_is (Ix23.core l).length
    obtain ⟨C, hC⟩ : ∃ C, (Ix23.core l).length = C := ⟨_, rfl⟩
    obtain ⟨Z, hZ⟩ : ∃ Z, Ix23.zpad C = Z := ⟨_, rfl⟩
    rw [hC] at hcroom hzp
    rw [hZ] at hzp
    have hbl := Ix23.body_len l
    rw [hC, hZ] at hbl
    have hpl := Ix23.putI_len HOK.out
    rw [hbl] at hpl
    have HCR : Hid ((Ix23.putI l).1.length = C + Z + 4 ∧ (Ix23.putI l).2 = 0) := ⟨hpl, by rw [Ix23.putI_0 HOK.out]⟩
    have HCL : Hid ((Ix23.core l).length = C) := hC
    have HNUM : Hid ((C : Int) ≤ 61572651155500 ∧ (Z : Int) ≤ 3 ∧ C ≤ 61572651155500) := ⟨by omega, by omega, hcroom⟩
    have hpad : (4 - (C : Int) % 4) % 4 = (Z : Int) := by rw [← hZ]; unfold Ix23.zpad; omega
    have HPD : Hid (∀ w : World, Calls Tryd.prog 37 #[.int .i64 (C : Int)] w fun e w' => e = .returned (.int .i64 (Z : Int)) ∧ w = w') := fun w => by
      have h9 := Wire.pad_pos (C : Int) w (by omega) (by have := HNUM.out; omega)
      rw [hpad] at h9
      exact h9
    have HP : Hid (∀ q ∈ l, 0 ≤ q.u ∧ 0 ≤ q.s) := fun q hq => by
      have := (Ix23.right_is HOK.out (by omega) (by omega)).1 q hq
      omega
    have cB := chg_one w2 (.cells #[.int .i64 1] 3)
    have HX6 : Hid _ := numbers_any ad n c (w2.alloc (.cells #[.int .i64 1] 3))
    have HP6 : Hid (SzI N w0 l ad n c ((w2.alloc (.cells #[.int .i64 1] 3)).alloc (.cells #[.slice ad n c] 23)).heap.size w2.heap.size (w2.heap.size + 1) 0 (fun _ => False) ((w2.alloc (.cells #[.int .i64 1] 3)).alloc (.cells #[.slice ad n c] 23))) := by
      have hA := chg_one (w2.alloc (.cells #[.int .i64 1] 3)) (.cells #[.slice ad n c] 23)
      have b2 := heap_alloc_last (w2.alloc (.cells #[.int .i64 1] 3)) (.cells #[.slice ad n c] 23)
      rw [World.size_alloc] at b2
      have hsz := HC2.out.size
      refine ⟨blk_keep (heap_alloc_last w2 _) hA (fun f => f), b2, chg_then (chg_then HC2.out cB) hA, fun _ f => f.elim, Nat.le_refl _, ?_⟩
      rw [World.size_alloc, World.size_alloc]
      exact ⟨HNN.out, by have := HNN.out; omega, by omega, by omega, by omega⟩
    clear hC hZ hcroom hzp hbl hpl hpad cB
    go_wp2_with fail
    refine Calls.mono HX6.out ?_
    rintro z w6 ⟨rfl, rfl⟩
    rw [World.size_alloc]
    obtain ⟨bn, hbn⟩ : ∃ b, w2.heap.size = b := ⟨_, rfl⟩
    rw [hbn] at HP6
    try rw [hbn]
    generalize (w2.alloc (.cells #[.int .i64 1] 3)).alloc (.cells #[.slice ad n c] 23) = w6 at *
    obtain ⟨b, hb⟩ : ∃ b, bn + 1 = b := ⟨_, rfl⟩
    rw [hb] at HP6
    try rw [hb]
    clear hbn hb HX6
    go_wp2_with fail
    refine wpIn_wide.1 (wp_rangeK (gf := 60) (lb := #[.pointer (some ⟨b, 0, none⟩)]) rfl (fun args w => by kernel_rfl) (num_go b ad n c l (by omega) HP.out) rfl
      (fun _ => False) (fun Ns k W => SzI N w0 l ad n c w6.heap.size bn b k Ns W) (fun _ _ _ _ => False)
      (fun Ns k a₁ W => ∃ x, (numN l)[k]? = some x ∧ SzI N w0 l ad n c w6.heap.size bn b k Ns W ∧ a₁ = { tmps := #[.slice ad n c, undef, .int .i64 0, .int .i64 0, .pointer (some ⟨bn, 0, none⟩), .int .u64 (x : Int), .slice ad n c, .bool true, .bool false, .slice ad n c, .func (.func 60) #[] #[.pointer (some ⟨b, 0, none⟩)], .int .u64 (x : Int), undef, undef, undef, undef, undef, undef, undef, undef, undef], defers := [] })
      (fun Ns k W W' h hc => h.turn hc) (fun _ _ _ _ _ f _ => f)
      (fun Ns k a₁ W W' ⟨x, h1, h2, h3⟩ hc => ⟨x, h1, h2.turn hc, h3⟩)
      (fun Ns Ns' k X Y h hc g1 g2 g3 => h.more hc g2)
      (fun _ f => f.elim)
      (fun Ns W h => ⟨h.nb, HL.out.new h.ch⟩) (fun Ns k W h => ⟨h.nb, HL.out.new h.ch⟩) HP6.out ?assign ?body ?done ?stop)
    case assign =>
      rintro Ns ll k hk W hA K hK
      have hkm : k < (numN l).length := by rw [numN_len]; exact hk
      have hx := List.getElem?_eq_getElem hkm
      obtain ⟨x, hxx⟩ : ∃ x, (numN l)[k] = x := ⟨_, rfl⟩
      rw [hxx] at hx
      have hv : (numV l)[k] = Value.int .u64 (x : Int) := by
        have h9 : (numV l)[k]? = some (Value.int .u64 (x : Int)) := by rw [numV_N HP.out, List.getElem?_map, hx]; rfl
        exact (List.getElem?_eq_some_iff.1 h9).2
      rw [hv]
      have HA : Hid _ := hA
      have HXX : Hid _ := hx
      clear hA hv hxx hx
      gi_wp2
      exact hK _ _ ⟨x, HXX.out, HA.out, rfl⟩ (Calm.new (Chg.refl _ _))
    case body =>
      rintro Ns ll k hk a₁ W hBl hrec ⟨x, hx, hA, rfl⟩
      have hxl := numN_le HOK.out x (List.mem_of_getElem? hx)
      have HA : Hid _ := hA
      have hnx := congrArg List.length (inI_next hx)
      rw [List.length_append, vbn_len] at hnx
      have hi1 := inI_len l (k + 1)
      rw [HCL.out] at hi1
      obtain ⟨A2, hA2⟩ : ∃ A, (inI l (k + 1)).length = A := ⟨_, rfl⟩
      obtain ⟨A, hAA⟩ : ∃ A, (inI l k).length = A := ⟨_, rfl⟩
      rw [hA2] at hnx hi1
      rw [hAA] at hnx
      have HA2 : Hid ((inI l (k + 1)).length = A2) := hA2
      have HAA : Hid ((inI l k).length = A) := hAA
      obtain ⟨S, hS⟩ : ∃ S, Vint.sz (x : Int) = S := ⟨_, rfl⟩
      rw [hS] at hnx
      have HVS : Hid (∀ ww, Chg (fun _ => False) W ww → Calls Tryd.prog 48 #[.int .u64 (x : Int)] ww fun e w' => e = .returned (.int .i64 (S : Int)) ∧ ww = w') := fun ww hc => by
        have h9 := Vint.size_any (x : Int) ww ((HT.out.new HA.out.ch).new hc) (by omega) (by omega)
        rw [hS] at h9
        exact h9
      have HAD : Hid (IntKind.i64.wrap ((A : Int) + (S : Int)) = (A2 : Int)) := by
        have h8 := HNUM.out
        show _ = _
        rw [hnx]
        simp [IntKind.wrap, IntKind.signed, IntKind.bits]
        omega
      have HBN : Hid _ := HA.out.cb
      rw [hAA] at HBN
      clear hx hA hrec hxl hnx hi1 hA2 hAA hS
      gi_wp2
      refine wpIn_region_phaseQ (mk := fun u => #[_, _, _, _, _, _, _, _, _, _, _, _, u 12, u 13, u 14, u 15, _, _, _, _, _]) (G := lookG [(12, .int .i64 (A : Int)), (13, .int .u64 (x : Int)), (14, .int .i64 (S : Int)), (15, .int .i64 (A2 : Int))]) (J := fun _ _ ww => Chg (fun _ => False) W ww) [] (fun i =>  0) ([]) (fun _ => undef) rfl (by kernel_rfl) 4 _ rfl rfl (by kernel_rfl) (by kernel_rfl) (by kernel_rfl) (by decide) ?_ ?_ ?_ (by kernel_rfl) ?_ ?_
      · repeat (refine ⟨fun _ _ => rfl, ?_⟩)
        exact trivial
      · exact fun _ _ _ _ _ h => h
      · exact (Chg.refl _ W).drew
      · refine ⟨?_, ?_, ?_, ?_, trivial⟩
        · refine StepRQ.inI (fun _ h => nomatch h) ?_
          show StepRQ _ _ _ _ _ _ _ _ _ -- 12
          unfold StepRQ
          intro qn hq u w_ hj hd K hK
          clear hd
          have x2 := one0 (blk_keep HBN.out hj (fun f => f))
          clear hj
          go_simp
          exact hK.out _ rfl
        · refine StepRQ.inI (fun _ h => nomatch h) ?_
          show StepRQ _ _ _ _ _ _ _ _ _ -- 13
          unfold StepRQ
          intro qn hq u w_ hj hd K hK
          clear hd
          go_simp
          exact hK.out (.int .u64 (x : Int)) rfl
        · refine StepRQ.inI (fun _ h => nomatch h) ?_
          show StepRQ _ _ _ _ _ _ _ _ _ -- 14
          unfold StepRQ
          intro qn hq u w_ hj hd K hK
          have h13 : u 13 = .int .u64 (x : Int) := hd.get 1 (by kernel_rfl)
          clear hd
          simp only [h13] at hK
          have HJ : Hid _ := hj
          clear hj
          go_simp
          go_at_call 48
          refine Calls.mono (HVS.out w_ HJ.out) ?_
          rintro z w2 ⟨rfl, rfl⟩
          exact hK.out _ rfl
        · refine StepRQ.inI (fun _ h => nomatch h) ?_
          show StepRQ _ _ _ _ _ _ _ _ _ -- 15
          unfold StepRQ
          intro qn hq u w_ hj hd K hK
          have h12 : u 12 = .int .i64 (A : Int) := hd.get 0 (by kernel_rfl)
          have h14 : u 14 = .int .i64 (S : Int) := hd.get 2 (by kernel_rfl)
          clear hd
          simp only [h12, h14] at hK
          clear hj
          go_simp
          rw [HAD.out]
          exact hK.out _ rfl
      · intro u w7 hj hA K hK
        have e15 : u 15 = .int .i64 (A2 : Int) := hA.at 15 (by kernel_rfl)
        have HJ : Hid _ := hj
        have x2 := one0 (blk_keep HA.out.cb hj (fun f => f))
        have f2 := fr0 (blk_keep HA.out.cb hj (fun f => f))
        clear hj hA
        simp only [e15] at hK ⊢
        clear e15
        have HF : Hid (Calm Ns w6.heap.size W (w7.setCell ⟨bn, 0, none⟩ (.int .i64 (A2 : Int))) ∧ SzI N w0 l ad n c w6.heap.size bn b (k + 1) Ns (w7.setCell ⟨bn, 0, none⟩ (.int .i64 (A2 : Int)))) := by
          have hlo := HA.out.lo
          exact ⟨(Calm.new HJ.out).trans (Calm.of ((Chg.refl (fun z => z = bn) w7).setCell (p := ⟨bn, 0, none⟩) (.inl rfl) _) (fun z e => ⟨fun f => by have := HA.out.ns z f; omega, .inl (by omega)⟩)), (HA.out.new HJ.out).next HA2.out⟩
        refine last_in ?_ ?_
        · intro c h
          cases h
        go_simp
        refine hK.out _ _ ?_
        clear hK x2 f2
        gi_wp2
        exact HF.out
    case done =>
      rintro Ns D W _ hD hA hdef
      rw [← numN_len] at hA
      have hbn := hA.cb
      rw [inI_end, HCL.out] at hbn
      have HBN : Hid _ := hbn
      have x4 := one0 hbn
      have HCE : Hid (Chg (fun _ => False) w0 W ∧ w0.heap.size ≤ D) := ⟨hA.ch, by have := hA.lo; omega⟩
      have HAD : Hid (IntKind.i64.wrap ((C : Int) + (Z : Int)) = (C : Int) + (Z : Int) ∧ IntKind.i64.wrap ((C : Int) + (Z : Int) + 4) = (C : Int) + (Z : Int) + 4) := by
        have h8 := HNUM.out
        constructor
        all_goals
          simp [IntKind.wrap, IntKind.signed, IntKind.bits]
          omega
      have hci := HNUM.out.1
      have hzi := HNUM.out.2.1
      have hdef2 := hdef
      have HDF : Hid _ := hdef
      clear hA hdef hbn hdef2 HP6 HP
      go_upto_region 7 with fail
      refine wp_region_phaseQ (mk := fun u => #[_, _, u 2, _, _, _, _, _, _, _, _, _, _, _, _, _, u 16, u 17, u 18, u 19, u 20]) (G := lookG [(16, .int .i64 (C : Int)), (17, .int .i64 (C : Int)), (18, .int .i64 (Z : Int)), (19, .int .i64 ((C : Int) + (Z : Int))), (20, .int .i64 ((C : Int) + (Z : Int) + 4)), (2, .int .i64 ((C : Int) + (Z : Int) + 4))]) (J := fun _ _ ww => Chg (fun _ => False) W ww) [] (fun i =>  0) ([{ target := .collected D, args := #[] }]) (fun t => if t = 2 then .int .i64 0 else undef) rfl (by kernel_rfl) 6 _ rfl rfl (by kernel_rfl) (by kernel_rfl) (by kernel_rfl) (by decide) ?_ ?_ ?_ (by kernel_rfl) ?_ ?_
      · repeat (refine ⟨fun _ _ => rfl, ?_⟩)
        exact trivial
      · exact fun _ _ _ _ _ h => h
      · exact (Chg.refl _ W).drew
      · refine ⟨?_, ?_, ?_, ?_, ?_, ?_, trivial⟩
        · show StepRQ _ _ _ _ _ _ _ _ _ -- 16
          unfold StepRQ
          intro qn hq u w_ hj hd K hK
          clear hd
          have x2 := cell_chg x4 hj
          clear hj
          go_simp
          exact hK.out _ rfl
        · show StepRQ _ _ _ _ _ _ _ _ _ -- 17
          unfold StepRQ
          intro qn hq u w_ hj hd K hK
          clear hd
          have x2 := cell_chg x4 hj
          clear hj
          go_simp
          exact hK.out _ rfl
        · show StepRQ _ _ _ _ _ _ _ _ _ -- 18
          unfold StepRQ
          intro qn hq u w_ hj hd K hK
          have h17 : u 17 = .int .i64 (C : Int) := hd.get 1 (by kernel_rfl)
          clear hd
          simp only [h17] at hK
          clear hj
          go_simp
          go_at_call 37
          refine Calls.mono (HPD.out w_) ?_
          rintro z w2 ⟨rfl, rfl⟩
          exact hK.out _ rfl
        · show StepRQ _ _ _ _ _ _ _ _ _ -- 19
          unfold StepRQ
          intro qn hq u w_ hj hd K hK
          have h16 : u 16 = .int .i64 (C : Int) := hd.get 0 (by kernel_rfl)
          have h18 : u 18 = .int .i64 (Z : Int) := hd.get 2 (by kernel_rfl)
          clear hd
          simp only [h16, h18] at hK
          clear hj
          go_simp
          rw [HAD.out.1]
          exact hK.out _ rfl
        · show StepRQ _ _ _ _ _ _ _ _ _ -- 20
          unfold StepRQ
          intro qn hq u w_ hj hd K hK
          have h19 : u 19 = .int .i64 ((C : Int) + (Z : Int)) := hd.get 3 (by kernel_rfl)
          clear hd
          simp only [h19] at hK
          clear hj
          go_simp
          rw [HAD.out.2]
          exact hK.out _ rfl
        · show StepRQ _ _ _ _ _ _ _ _ _ -- 2
          unfold StepRQ
          intro qn hq u w_ hj hd K hK
          have h20 : u 20 = .int .i64 ((C : Int) + (Z : Int) + 4) := hd.get 4 (by kernel_rfl)
          clear hd
          simp only [h20] at hK
          go_simp
          exact hK.out (.int .i64 ((C : Int) + (Z : Int) + 4)) rfl
      · intro u w7 hj hA K hK
        have e2 : u 2 = .int .i64 ((C : Int) + (Z : Int) + 4) := hA.at 2 (by kernel_rfl)
        have HJ : Hid _ := hj
        clear hj hA x4
        simp only [e2] at hK ⊢
        clear e2
        go_simp
        refine hK.out _ _ ?_
        have hK2 := blk_keep HDF.out HJ.out (fun f => f)
        have HCE2 : Hid (Chg (fun _ => False) w0 (w7.putObj D (.deferred none))) := (chg_then HCE.out.1 HJ.out).trans (chg_put _ D _) (fun z e => .inr (by have := HCE.out.2; omega))
        clear hK
        go_wp2
        refine ⟨by simp, .inl ⟨_, _, rfl, run_takeDeferred hK2, ?_⟩⟩
        exact ⟨.tuple #[.int .i64 ((C : Int) + (Z : Int) + 4), .int .i64 0], by simp [results, Tryd.results19, go_sem], (by rw [HCR.out.1, HCR.out.2]; go_num), HCE2.out⟩
    case stop =>
      rintro Ns D cc k W _ hD h1 h2 f
      exact f.elim
end Go.Proofs.YtehfcfpbjenmjaaDoor
