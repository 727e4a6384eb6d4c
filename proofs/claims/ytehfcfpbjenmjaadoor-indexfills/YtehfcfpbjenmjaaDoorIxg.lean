/- The document's own Places and Find; of no statement by themselves. -/
import Derived.Test.YtehfcfpbjenmjaaDoorIxf
namespace Go.Proofs.YtehfcfpbjenmjaaDoor
open Go.RowKit
set_option linter.unusedVariables false
set_option linter.unusedSimpArgs false
theorem results_tmp4 {fn : Func} {t u v x : Tmp} (h : fn.results = #[.tmp t, .tmp u, .tmp v, .tmp x]) (tmps : Array Value) (P : Program) (w : World) :
    (results fn tmps).run P w = .ok (.tuple #[tmps.getD t undef, tmps.getD u undef, tmps.getD v undef, tmps.getD x undef]) w := by
  simp [results, h]
theorem PlO.push {B : Nat} {w w2 : World} {lv lv' : Value} {q : List Plc} {x : Plc} {n : Nat} (h : PlO w B lv q) (hn : n = q.length + 1) (ho : w2.ownsRow B 45 4 lv' n (pls q ++ pls [x])) : PlO w2 B lv' (q ++ [x]) := by
  subst hn
  unfold PlO
  rw [List.length_append, List.length_singleton, pls_app]
  exact ho
theorem placesI_yes {frm : Int} {l : List Rec} (h : Ix23.rightB 0 0 l = true) (h0 : 0 ≤ frm) (h1 : frm + Ix23.bsum l ≤ 9223372036854775807) : Ix23.placesI frm l = (Ix23.placeL frm 0 l, frm + Ix23.bsum l, Ix23.ssum l, 0) := by unfold Ix23.placesI; rw [if_pos ⟨h, h0, h1⟩]
theorem placesI_no {frm : Int} {l : List Rec} (h : ¬ (Ix23.rightB 0 0 l = true ∧ 0 ≤ frm ∧ frm + Ix23.bsum l ≤ 9223372036854775807)) : Ix23.placesI frm l = ([], 0, 0, 7) := by unfold Ix23.placesI; rw [if_neg h]
theorem places_I {frm : Int} {l : List Rec} (h : Ix23.rightB 0 0 l = true) (h0 : 0 ≤ frm) (h1 : frm + Ix23.bsum l ≤ 9223372036854775807) : ∀ (k : Nat) (p : Plc), (Ix23.placeL frm 0 l)[k]? = some p → p.I ∧ ∃ q : Rec, l[k]? = some q ∧ p = ⟨frm + Ix23.bsum (l.take k), q, Ix23.ssum (l.take k)⟩ ∧ 0 ≤ q.s ∧ 0 ≤ Ix23.ssum (l.take k) ∧ Ix23.ssum (l.take k) + q.s ≤ Ix23.ssum l ∧ frm + Ix23.bsum (l.take k) + Ix23.pad q.u ≤ frm + Ix23.bsum l ∧ 5 ≤ q.u := fun k p hp => by
  have hk := (List.getElem?_eq_some_iff.1 hp).1
  rw [Ix23.placeL_len] at hk
  have e := List.getElem?_eq_getElem hk
  obtain ⟨q, hq⟩ : ∃ q, l[k] = q := ⟨_, rfl⟩
  rw [hq] at e
  rw [Ix23.placeL_at e] at hp
  simp only [Option.some.injEq, Int.zero_add] at hp
  have hs := sum_bd h
  have hpos : ∀ m : List Rec, (∀ r ∈ m, 0 ≤ r.s ∧ 0 ≤ r.u) → 0 ≤ Ix23.ssum m ∧ 0 ≤ Ix23.bsum m := fun m => by
    induction m with
    | nil => intro _; exact ⟨by simp [Ix23.ssum], by simp [Ix23.bsum]⟩
    | cons y m ih =>
      intro hm
      have h1 := hm y (by simp)
      have h2 := ih (fun x hx => hm x (by simp [hx]))
      have h3 := (Ix23.pad_is y.u).1
      rw [Ix23.ssum, Ix23.bsum]
      omega
  have hall := (Ix23.right_is h (by omega) (by omega)).1
  have hall2 : ∀ r ∈ l, 0 ≤ r.s ∧ 0 ≤ r.u := fun r hr => by have := hall r hr; omega
  have hsplit : l = l.take k ++ (q :: l.drop (k + 1)) := by rw [← hq, ← List.drop_eq_getElem_cons hk, List.take_append_drop]
  have e1 : Ix23.ssum l = Ix23.ssum (l.take k) + (q.s + Ix23.ssum (l.drop (k + 1))) := by rw [hsplit, Ix23.ssum_app, ← hsplit]; rfl
  have e2 : Ix23.bsum l = Ix23.bsum (l.take k) + (Ix23.pad q.u + Ix23.bsum (l.drop (k + 1))) := by rw [hsplit, Ix23.bsum_app, ← hsplit]; rfl
  have p1 := hpos (l.take k) (fun r hr => hall2 r (List.mem_of_mem_take hr))
  have p2 := hpos (l.drop (k + 1)) (fun r hr => hall2 r (List.mem_of_mem_drop hr))
  have hq2 := hall q (by rw [← hq]; exact List.getElem_mem _)
  have h3 := (Ix23.pad_is q.u).1
  refine ⟨?_, q, e, hp.symm, hq2.2.2.1, p1.1, by omega, by omega, hq2.1⟩
  rw [← hp]
  unfold Plc.I Rec.I I64
  simp only
  omega
set_option maxHeartbeats 8000000 in
set_option maxRecDepth 100000 in
theorem rplaces_any (frm : Int) (ad : Option Addr) (n c : Nat) (l : List Rec) (w0 : World) (h : RcF w0 ad n c l) (hn : n ≤ 4398046511104) (hf : I64 frm) : Calls Tryd.prog 22 #[.int .i64 frm, .slice ad n c] w0 fun e w' => ∃ sv, e = .returned (.tuple #[sv, .int .i64 (Ix23.placesI frm l).2.1, .int .i64 (Ix23.placesI frm l).2.2.1, .int .i64 (Ix23.placesI frm l).2.2.2]) ∧ PlO w' w0.heap.size sv (Ix23.placesI frm l).1 ∧ Chg (fun _ => False) w0 w' := by
  obtain ⟨iu, hiu, hu0, hu1, hu2⟩ := info_parts infoPl
  have HL : Hid (RcF w0 ad n c l) := h
  have hni : (n : Int) ≤ 4398046511104 := by omega
  obtain ⟨f0, f1⟩ := hf
  have HR : Hid _ := right23_any ad n c l w0 h (by omega)
  clear h
  have HNO : Hid (¬ (Ix23.rightB 0 0 l = true ∧ 0 ≤ frm ∧ frm + Ix23.bsum l ≤ 9223372036854775807) → Ix23.placesI frm l = ([], 0, 0, 7)) := placesI_no
  have HYES : Hid (Ix23.rightB 0 0 l = true → 0 ≤ frm → frm + Ix23.bsum l ≤ 9223372036854775807 → Ix23.placesI frm l = (Ix23.placeL frm 0 l, frm + Ix23.bsum l, Ix23.ssum l, 0)) := placesI_yes
  obtain ⟨ok, hok⟩ : ∃ b, Ix23.rightB 0 0 l = b := ⟨_, rfl⟩
  have HOK : Hid (Ix23.rightB 0 0 l = ok) := hok
  rw [hok] at HR
  clear hok
  go_enter Tryd.func22, Tryd.ntmps22
  go_wp2_with fail
  refine Calls.mono HR.out ?_
  rintro z w1 ⟨x, y, rfl, hxy, c1⟩
  have HC1 : Hid (Chg (fun _ => False) w0 w1) := c1
  have HXY : Hid (ok = true → x = Ix23.bsum l ∧ y = Ix23.ssum l) := hxy
  clear hxy c1 HR
  cases ok
  · have HE : Hid (Ix23.placesI frm l = ([], 0, 0, 7)) := HNO.out (fun f => by rw [HOK.out] at f; cases f.1)
    clear HNO HYES
    go_wp2
    refine bodyPost_ret (results_tmp4 rfl _ _ _) rfl ?_
    exact ⟨_, (by rw [HE.out]; rfl), (by rw [HE.out]; exact World.ownsRow_nil _ _ _ _), HC1.out⟩
  · obtain ⟨rfl, rfl⟩ := HXY.out rfl
    by_cases hneg : frm < 0
    · have HE : Hid (Ix23.placesI frm l = ([], 0, 0, 7)) := HNO.out (fun f => by have := f.2.1; omega)
      clear HNO HYES HXY
      generalize Ix23.bsum l = x at *
      generalize Ix23.ssum l = y at *
      go_wp2
      refine bodyPost_ret (results_tmp4 rfl _ _ _) rfl ?_
      exact ⟨_, (by rw [HE.out]; rfl), (by rw [HE.out]; exact World.ownsRow_nil _ _ _ _), HC1.out⟩
    · obtain ⟨b0, b1, s0, s1⟩ := sum_bd HOK.out
      obtain ⟨bs, hbs⟩ : ∃ x, Ix23.bsum l = x := ⟨_, rfl⟩
      obtain ⟨ss, hss⟩ : ∃ x, Ix23.ssum l = x := ⟨_, rfl⟩
      have HBS : Hid (Ix23.bsum l = bs) := hbs
      have HSS : Hid (Ix23.ssum l = ss) := hss
      rw [hbs] at b0 b1 HNO HYES
      rw [hss] at s0 s1 HYES
      rw [hbs, hss]
      clear hbs hss HXY
      have e1 : IntKind.u64.wrap frm = frm := w64 (by omega) (by omega)
      have e2 : IntKind.u64.wrap (frm + bs) = frm + bs := w64 (by omega) (by omega)
      by_cases hbig : 9223372036854775807 < frm + bs
      · have HE : Hid (Ix23.placesI frm l = ([], 0, 0, 7)) := HNO.out (fun f => by have := f.2.2; omega)
        clear HNO HYES
        go_wp2
        refine bodyPost_ret (results_tmp4 rfl _ _ _) rfl ?_
        exact ⟨_, (by rw [HE.out]; rfl), (by rw [HE.out]; exact World.ownsRow_nil _ _ _ _), HC1.out⟩
      · have HE : Hid (Ix23.placesI frm l = (Ix23.placeL frm 0 l, frm + bs, ss, 0)) := HYES.out HOK.out (by omega) (by omega)
        clear HNO HYES
        go_wp2_with fail
        go_loopw [0, 11, 12, 13] (fun f v s i wr => ∃ k : Nat, k ≤ n ∧ i = .int .i64 (k : Int) ∧ f = .int .i64 (frm + Ix23.bsum (l.take k)) ∧ s = .int .i64 (Ix23.ssum (l.take k)) ∧ Hid (PlO wr w0.heap.size v (Ix23.placeL frm 0 (l.take k))) ∧ Hid (Chg (fun _ => False) w0 wr)) (fun _ _ _ i _ => n - (intOf i).toNat)
        case atStart => exact ⟨0, by omega, rfl, by simp [Ix23.bsum], by simp [Ix23.ssum], World.ownsRow_nil _ _ _ _, HC1.out⟩
        case round =>
          obtain ⟨k, hk, rfl, rfl, rfl, HO, HC⟩ := hrel
          have hki : (k : Int) ≤ (n : Int) := by omega
          have HLN : Hid (l.length = n) := HL.out.len
          by_cases hlt : k < n
          · have d1 : decide ((k : Int) < (n : Int)) = true := decide_eq_true (by omega)
            have d1' : decide (k < n) = true := decide_eq_true hlt
            obtain ⟨q, bx, ox, hq, hI, rfl, x0, x1⟩ := (HL.out.new HC.out).at hlt
            obtain ⟨hpI, q', hq', -, p1, p2, p3, p4, p5⟩ := places_I HOK.out (by omega) (by rw [HBS.out]; omega) k _ (Ix23.placeL_at hq)
            rw [hq] at hq'
            simp only [Option.some.injEq] at hq'
            subst hq'
            have hnx : Ix23.placeL frm 0 (l.take (k + 1)) = Ix23.placeL frm 0 (l.take k) ++ [⟨frm + Ix23.bsum (l.take k), q, Ix23.ssum (l.take k)⟩] ∧ Ix23.bsum (l.take (k + 1)) = Ix23.bsum (l.take k) + Ix23.pad q.u ∧ Ix23.ssum (l.take (k + 1)) = Ix23.ssum (l.take k) + q.s := by
              rw [take_last hq, Ix23.placeL_app, Ix23.bsum_app, Ix23.ssum_app, Int.zero_add]
              exact ⟨rfl, by simp [Ix23.bsum], by simp [Ix23.ssum]⟩
            have hru := (Ix23.right_is HOK.out (by omega) (by omega)).1 q (List.mem_of_getElem? hq)
            have HP : Hid (∀ w, Calls Tryd.prog 51 #[.int .i64 q.u] w fun e w' => e = .returned (.int .i64 (Ix23.pad q.u)) ∧ w = w') := fun w => rpad_any q.u w (by omega) hru.2.1
            obtain ⟨u, s⟩ := q
            rw [HBS.out] at p4
            rw [HSS.out] at p3
            simp only at x0 x1 p1 p3 p4 p5 HP hnx
            have HN : Hid _ := hnx
            have HQ : Hid (l[k]? = some ⟨u, s⟩) := hq
            have hpu := (Ix23.pad_is u).1
            have hbk : 0 ≤ Ix23.bsum (l.take k) := by
              have h9 : Ix23.rightB 0 0 (l.take k) = true := by
                have h8 := HOK.out
                rw [← List.take_append_drop k l, Ix23.right_app] at h8
                exact h8.1
              exact (sum_bd h9).1
            have hlk : (l.take k).length = k := by rw [List.length_take, HLN.out]; omega
            have hpk := Ix23.placeL_len frm 0 (l.take k)
            rw [hlk] at hpk
            generalize Ix23.pad u = pu at *
            generalize Ix23.bsum (l.take k) = bk at *
            generalize Ix23.ssum (l.take k) = sk at *
            generalize Ix23.placeL frm 0 (l.take k) = pk at *
            obtain ⟨va, vc, rfl, _⟩ := formI HO.out
            have cA := chg_one wr (.cells #[.int .i64 (frm + bk), .int .i64 u, .int .i64 s, .int .i64 sk] 45)
            have hown := HO.out.new cA
            have hsrc := from_pl wr ⟨frm + bk, ⟨u, s⟩, sk⟩ 45
            have hB : w0.heap.size ≤ (wr.alloc (.cells #[.int .i64 (frm + bk), .int .i64 u, .int .i64 s, .int .i64 sk] 45)).heap.size := (chg_then HC.out cA).size
            have HCA : Hid (Chg (fun _ => False) w0 (wr.alloc (.cells #[.int .i64 (frm + bk), .int .i64 u, .int .i64 s, .int .i64 sk] 45))) := chg_then HC.out cA
            have HX0 : Hid (wr.cell? ⟨bx, ox + k * 2, none⟩ = some (.int .i64 u)) := x0
            have HX1 : Hid (wr.cell? ⟨bx, ox + k * 2 + 1, none⟩ = some (.int .i64 s)) := x1
            unfold PlO at hown
            rw [hpk] at hown ⊢
            clear hq hI cA hnx hpI hru
            simp only at hsrc
            go_wp2_with (at_builtin; refine wpList_append_moved rfl _ _ 39 rfl w0.heap.size 45 iu (.agg #[.int .i64 0, .int .i64 0, .int .i64 0, .int .i64 0]) 4 32 Tryd.underlying39 hiu hu0 hu1 hu2 rfl (by decide) _ k (pls pk) rfl (some ⟨wr.heap.size, 0, none⟩) 1 1 rfl (pls [⟨frm + bk, ⟨u, s⟩, sk⟩]) ?h1 ?h2 ?h3 ?m1 ?m2 ?m3 ?_)
            case h1 => exact hown
            case h2 => exact hsrc
            case h3 => exact pls_cell _
            case m1 => unfold maxLen; omega
            case m2 => omega
            case m3 => exact hB
            intro v4 w4 ho4 hg4 hm4
            have c4 : Chg (fun _ => False) w0 w4 := HCA.out.grown hg4 (fun j e => .inr ((hown.lt j e).1))
            have HC4 : Hid (Chg (fun _ => False) w0 w4) := c4
            have HO4 : Hid (PlO w4 w0.heap.size v4 (pk ++ [⟨frm + bk, ⟨u, s⟩, sk⟩])) := PlO.push (w := wr) (lv := .slice va pk.length vc) HO.out (by rw [hpk]) ho4
            obtain ⟨a4, d4, rfl, _⟩ := formI ho4
            have hrc := ((HL.out.new c4)).at hlt
            obtain ⟨q9, b9, o9, hq9, -, hab, y0, y1⟩ := hrc
            simp only [Option.some.injEq, Addr.mk.injEq, and_true] at hab
            obtain ⟨rfl, rfl⟩ := hab
            rw [HQ.out] at hq9
            simp only [Option.some.injEq] at hq9
            subst hq9
            simp only at y0 y1
            have HP4 : Hid _ := HP.out w4
            clear ho4 hg4 hm4 c4 hown hsrc hB x0 x1 HP
            go_wp2_with fail
            refine Calls.mono HP4.out ?_
            rintro z w5 ⟨rfl, rfl⟩
            go_wp2
            go_roundw
            case rel => exact ⟨k + 1, by omega, by go_num, by rw [HN.out.2.1, Int.add_assoc], by rw [HN.out.2.2], by show PlO _ _ _ _; rw [HN.out.1]; exact HO4.out, HC4⟩
            case measure => simp [intOf]; omega
          · obtain rfl : k = n := by omega
            rw [List.take_of_length_le (by rw [HLN.out]; omega)] at HO ⊢
            rw [HBS.out, HSS.out]
            have e9 : IntKind.i64.wrap ss = ss := by simp [IntKind.wrap, IntKind.signed, IntKind.bits]; omega
            obtain ⟨va, vc, rfl, _⟩ := formI HO.out
            have HO9 : Hid _ := HO.out
            generalize (Ix23.placeL frm 0 l).length = ln at *
            go_wp2
            refine bodyPost_ret (results_tmp4 rfl _ _ _) rfl ?_
            exact ⟨_, (by rw [HE.out]; rfl), (by rw [HE.out]; exact HO.out), HC.out⟩
end Go.Proofs.YtehfcfpbjenmjaaDoor
