/- The landed index's Places; of no statement by itself. -/
import Derived.Test.YtehfcfpbjenmjaaDoorIzb
import Derived.Test.YtehfcfpbjenmjaaDoorIzi
import Derived.Test.YtehfcfpbjenmjaaDoorIxg
namespace Go.Proofs.YtehfcfpbjenmjaaDoor
open Go.RowKit
set_option linter.unusedVariables false
set_option linter.unusedSimpArgs false
theorem right_from (d : Int) (hd : 0 ≤ d) : ∀ (l : List Rec) (b p : Int), 0 ≤ b → 0 ≤ p → p ≤ 9223372036854775807 → b + d ≤ 9223372036854775807 → (Ix23.rightB (b + d) p l = true ↔ Ix23.rightB b p l = true ∧ b + d + Ix23.bsum l ≤ 9223372036854775807)
  | [], b, p, _, _, _, h => by simp [Ix23.rightB, Ix23.bsum]; omega
  | r :: l, b, p, hb, hp, hp1, h => by
    have hpd := Ix23.pad_is r.u
    constructor
    · intro h1
      obtain ⟨h2, h3⟩ := Ix23.right_cons.1 h1
      obtain ⟨f1, f2, f3, f4, f5⟩ := Ix23.fit_is.1 h2
      have e : b + d + Ix23.pad r.u = (b + Ix23.pad r.u) + d := by omega
      rw [e] at h3
      obtain ⟨i1, i2⟩ := (right_from d hd l (b + Ix23.pad r.u) (p + r.s) (by omega) (by omega) f5 (by omega)).1 h3
      refine ⟨Ix23.right_cons.2 ⟨Ix23.fit_is.2 ⟨f1, f2, f3, by omega, f5⟩, i1⟩, ?_⟩
      rw [Ix23.bsum]
      omega
    · rintro ⟨h1, h4⟩
      obtain ⟨h2, h3⟩ := Ix23.right_cons.1 h1
      obtain ⟨f1, f2, f3, f4, f5⟩ := Ix23.fit_is.1 h2
      rw [Ix23.bsum] at h4
      obtain ⟨_, _, _, q4, _, _⟩ := Ix23.right_is h3 f4 f5
      have e : b + d + Ix23.pad r.u = (b + Ix23.pad r.u) + d := by omega
      refine Ix23.right_cons.2 ⟨Ix23.fit_is.2 ⟨f1, f2, f3, by omega, f5⟩, ?_⟩
      rw [e]
      exact (right_from d hd l (b + Ix23.pad r.u) (p + r.s) (by omega) (by omega) f5 (by omega)).2 ⟨h3, by omega⟩
theorem right_badF {frm : Int} {l : List Rec} {k : Nat} {q : Rec} (h : l[k]? = some q) (hf : Ix23.fitB (frm + Ix23.bsum (l.take k)) (Ix23.ssum (l.take k)) q = false) : Ix23.rightB frm 0 l = false := by
  cases e : Ix23.rightB frm 0 l
  · rfl
  · rw [← List.take_append_drop (k + 1) l, Ix23.right_app, take_last h, Ix23.right_app, right_one, Int.zero_add, hf] at e
    exact absurd e.1.2 (by simp)
set_option maxHeartbeats 16000000 in
set_option maxRecDepth 100000 in
theorem places23_any (frm : Int) (ad : Option Addr) (n c : Nat) (l : List Rec) (w0 : World) (h : RcF w0 ad n c l) (hn : n ≤ 8796093022208) (hf : I64 frm) : Calls Tryd.prog 14 #[.int .i64 frm, .slice ad n c] w0 fun e w' => ∃ sv, e = .returned (.tuple #[sv, .int .i64 (Ix23.placesI frm l).2.1, .int .i64 (Ix23.placesI frm l).2.2.1, .int .i64 (Ix23.placesI frm l).2.2.2]) ∧ PlO w' w0.heap.size sv (Ix23.placesI frm l).1 ∧ Chg (fun _ => False) w0 w' := by
  obtain ⟨iu, hiu, hu0, hu1, hu2⟩ := info_parts infoPl
  have HL : Hid (RcF w0 ad n c l) := h
  have HLN : Hid (l.length = n) := h.len
  have hni : (n : Int) ≤ 8796093022208 := by omega
  have HN4 : Hid (n ≤ 8796093022208) := hn
  obtain ⟨f0, f1⟩ := hf
  have HNO : Hid (¬ (Ix23.rightB 0 0 l = true ∧ 0 ≤ frm ∧ frm + Ix23.bsum l ≤ 9223372036854775807) → Ix23.placesI frm l = ([], 0, 0, 7)) := placesI_no
  have HYES : Hid (Ix23.rightB 0 0 l = true → 0 ≤ frm → frm + Ix23.bsum l ≤ 9223372036854775807 → Ix23.placesI frm l = (Ix23.placeL frm 0 l, frm + Ix23.bsum l, Ix23.ssum l, 0)) := placesI_yes
  clear h hn
  by_cases hneg : frm < 0
  · have HE : Hid (Ix23.placesI frm l = ([], 0, 0, 7)) := HNO.out (fun f => by have := f.2.1; omega)
    clear HNO HYES
    go_enter Tryd.func14, Tryd.ntmps14
    go_wp2
    refine bodyPost_ret (results_tmp4 rfl _ _ _) rfl ?_
    exact ⟨_, (by rw [HE.out]; rfl), (by rw [HE.out]; exact World.ownsRow_nil _ _ _ _), Chg.refl _ _⟩
  have hfr : 0 ≤ frm := by omega
  have hlt0 : decide (frm < 0) = false := decide_eq_false hneg
  have HFB : Hid (0 ≤ frm ∧ frm ≤ 9223372036854775807) := ⟨hfr, f1⟩
  have HRI : Hid (Ix23.rightB frm 0 l = true ↔ Ix23.rightB 0 0 l = true ∧ frm + Ix23.bsum l ≤ 9223372036854775807) := by
    have h9 := right_from frm hfr l 0 0 (by omega) (by omega) (by omega) (by omega)
    rw [Int.zero_add] at h9
    exact h9
  obtain ⟨N, hN⟩ : ∃ N, w0.heap.size = N := ⟨_, rfl⟩
  have HNN : Hid (w0.heap.size = N) := hN
  have hS0 : Sms (w0.alloc (.cells #[.int .i64 frm, .int .i64 0] 85)) N frm 0 := by rw [← hN]; exact heap_alloc_last _ _
  have HS0 : Hid (Sms (w0.alloc (.cells #[.int .i64 frm, .int .i64 0] 85)) N frm 0 ∧ Chg (fun _ => False) w0 (w0.alloc (.cells #[.int .i64 frm, .int .i64 0] 85))) := ⟨hS0, chg_one w0 _⟩
  clear hS0 hneg
  go_enter Tryd.func14, Tryd.ntmps14
  go_upto_region 4 with fail
  try rw [hN]
  generalize w0.alloc (.cells #[.int .i64 frm, .int .i64 0] 85) = w1 at *
  clear hN
  go_wp2_with (at_make; refine wpList_make_own _ rfl _ _ 39 rfl (N + 1) 45 iu (.agg #[.int .i64 0, .int .i64 0, .int .i64 0, .int .i64 0]) 4 Tryd.underlying39 hiu hu0 hu1 .i64 .i64 _ n rfl rfl rfl (by rw [hu2]; have := HN4.out; omega) (by have := HN4.out; unfold maxLen; omega) (by have := lt_of_blk HS0.out.1; omega) ?_)
  intro w2 hown hg
  have c2 : Chg (fun _ => False) w1 w2 := (Chg.refl _ w1).grown hg (fun k e => by cases e)
  have HO2 : Hid (PlO w2 (N + 1) (.slice (some ⟨w1.heap.size, 0, none⟩) 0 n) []) := hown
  have HS2 : Hid (Sms w2 N frm 0 ∧ Chg (fun _ => False) w0 w2) := ⟨HS0.out.1.keep c2 (fun f => f), chg_then HS0.out.2 c2⟩
  obtain ⟨GG, hGG⟩ : ∃ g, w1.heap.size = g := ⟨_, rfl⟩
  rw [hGG] at HO2
  try rw [hGG]
  clear hown hg c2 hGG
  go_wp2_with fail
  go_loopw [9, 21] (fun v i wr => ∃ k : Nat, k ≤ n ∧ i = .int .i64 (k : Int) ∧ Hid (Ix23.rightB frm 0 (l.take k) = true) ∧ Hid (Sms wr N (frm + Ix23.bsum (l.take k)) (Ix23.ssum (l.take k))) ∧ v = .slice (some ⟨GG, 0, none⟩) k n ∧ Hid (PlO wr (N + 1) (.slice (some ⟨GG, 0, none⟩) k n) (Ix23.placeL frm 0 (l.take k))) ∧ Hid (Chg (fun _ => False) w0 wr)) (fun _ i _ => n - (intOf i).toNat)
  case atStart => exact ⟨0, by omega, rfl, rfl, by show Sms _ _ _ _; simpa [Ix23.bsum, Ix23.ssum] using HS2.out.1, rfl, HO2, HS2.out.2⟩
  case round =>
    clear HO2 HS2 HS0
    obtain ⟨k, hk, rfl, HR, HS, rfl, HO, HC⟩ := hrel
    have hki : (k : Int) ≤ (n : Int) := by omega
    have hlk : (l.take k).length = k := by rw [List.length_take, HLN.out]; omega
    have hpk := Ix23.placeL_len frm 0 (l.take k)
    rw [hlk] at hpk
    have HPK : Hid ((Ix23.placeL frm 0 (l.take k)).length = k) := hpk
    have hri := Ix23.right_is HR.out HFB.out.2 (by omega)
    have HBK : Hid (0 ≤ frm + Ix23.bsum (l.take k) ∧ frm + Ix23.bsum (l.take k) ≤ 9223372036854775807 ∧ 0 ≤ Ix23.ssum (l.take k) ∧ Ix23.ssum (l.take k) ≤ 9223372036854775807) := by have := HFB.out; show _ ∧ _; omega
    clear hlk hpk hri
    by_cases hlt : k < n
    · have d1 : decide ((k : Int) < (n : Int)) = true := decide_eq_true (by omega)
      have d1' : decide (k < n) = true := decide_eq_true hlt
      obtain ⟨q, bx, ox, hq, hI, rfl, x0, x1⟩ := (HL.out.new HC.out).at hlt
      have HNX : Hid (Ix23.fitB (frm + Ix23.bsum (l.take k)) (Ix23.ssum (l.take k)) q = true → Ix23.rightB frm 0 (l.take (k + 1)) = true ∧ frm + Ix23.bsum (l.take k) + Ix23.pad q.u = frm + Ix23.bsum (l.take (k + 1)) ∧ Ix23.ssum (l.take k) + q.s = Ix23.ssum (l.take (k + 1))) := fun hf => by
        rw [take_last hq, Ix23.right_app, right_one, Ix23.bsum_app, Ix23.ssum_app, Int.zero_add]
        exact ⟨⟨HR.out, hf⟩, by simp [Ix23.bsum]; omega, by simp [Ix23.ssum]⟩
      have HPN : Hid (Ix23.placeL frm 0 (l.take (k + 1)) = Ix23.placeL frm 0 (l.take k) ++ [⟨frm + Ix23.bsum (l.take k), q, Ix23.ssum (l.take k)⟩]) := by
        show _ = _
        rw [take_last hq, Ix23.placeL_app, Int.zero_add]
        rfl
      have HBD : Hid (Ix23.fitB (frm + Ix23.bsum (l.take k)) (Ix23.ssum (l.take k)) q = false → Ix23.rightB frm 0 l = false) := fun hf => right_badF hq hf
      obtain ⟨u, s⟩ := q
      simp only at x0 x1
      have bA := heap_alloc_last wr (.cells #[.int .i64 u, .int .i64 s] 43)
      have cA := chg_one wr (.cells #[.int .i64 u, .int .i64 s] 43)
      have HA : Hid ((wr.alloc (.cells #[.int .i64 u, .int .i64 s] 43)).heap[wr.heap.size]? = some (.cells #[.int .i64 u, .int .i64 s] 43 (0, 0)) ∧ Sms (wr.alloc (.cells #[.int .i64 u, .int .i64 s] 43)) N (frm + Ix23.bsum (l.take k)) (Ix23.ssum (l.take k)) ∧ Chg (fun _ => False) w0 (wr.alloc (.cells #[.int .i64 u, .int .i64 s] 43))) := ⟨bA, HS.out.keep cA (fun f => f), chg_then HC.out cA⟩
      have HOA : Hid (PlO (wr.alloc (.cells #[.int .i64 u, .int .i64 s] 43)) (N + 1) (.slice (some ⟨GG, 0, none⟩) k n) (Ix23.placeL frm 0 (l.take k))) := HO.out.new cA
      have HII : Hid ((⟨u, s⟩ : Rec).I) := hI
      generalize Ix23.placeL frm 0 (l.take k) = pk at *
      generalize frm + Ix23.bsum (l.take k) = bk at *
      generalize Ix23.ssum (l.take k) = sk at *
      clear hq hI bA cA HS HO HC
      go_upto_region 8 with fail
      generalize wr.alloc (.cells #[.int .i64 u, .int .i64 s] 43) = w4 at *
      have m0 := cell0 HA.out.1
      have m1 := cell1 HA.out.1
      have s0 := cell0 HA.out.2.1
      have s1 := cell1 HA.out.2.1
      have cB := chg_one w4 (.cells #[.int .i64 bk, .int .i64 u, .int .i64 s, .int .i64 sk] 45)
      have hown := HOA.out.new cB
      have hsrc := from_pl w4 ⟨bk, ⟨u, s⟩, sk⟩ 45
      have hB : N + 1 ≤ (w4.alloc (.cells #[.int .i64 bk, .int .i64 u, .int .i64 s, .int .i64 sk] 45)).heap.size := by have h1 := lt_of_blk HA.out.2.1; rw [World.size_alloc]; omega
      have HCB : Hid (Chg (fun _ => False) w0 (w4.alloc (.cells #[.int .i64 bk, .int .i64 u, .int .i64 s, .int .i64 sk] 45)) ∧ Sms (w4.alloc (.cells #[.int .i64 bk, .int .i64 u, .int .i64 s, .int .i64 sk] 45)) N bk sk ∧ (w4.alloc (.cells #[.int .i64 bk, .int .i64 u, .int .i64 s, .int .i64 sk] 45)).heap[wr.heap.size]? = some (.cells #[.int .i64 u, .int .i64 s] 43 (0, 0))) := ⟨chg_then HA.out.2.2 cB, HA.out.2.1.keep cB (fun f => f), blk_keep HA.out.1 cB (fun f => f)⟩
      unfold PlO at hown
      rw [HPK.out] at hown
      have HSRC : Hid (∀ (j : Nat) (x : Value), (pls [⟨bk, ⟨u, s⟩, sk⟩])[j]? = some x → (w4.alloc (.cells #[.int .i64 bk, .int .i64 u, .int .i64 s, .int .i64 sk] 45)).cell? ((⟨w4.heap.size, 0, none⟩ : Addr).add j) = some x) := fun j x hx => by
        rcases hsrc.2 with ⟨_, e, _⟩ | ⟨x0, e, h9⟩
        · cases e
        · obtain rfl := Option.some.inj e
          exact h9 j x hx
      clear cB HA hsrc
      go_wp2_with (at_builtin; refine wpList_append_fits _ rfl _ _ 39 rfl (N + 1) 45 iu 4 Tryd.underlying39 hiu hu1 GG k n (pls pk) rfl hown ⟨w4.heap.size, 0, none⟩ 1 1 (pls [⟨bk, ⟨u, s⟩, sk⟩]) rfl rfl ?h2 (pls_cell _) (by omega) ?_)
      case h2 =>
        intro j x hx
        first | exact HSRC.out j x hx | (rw [pls_one] at hx; exact hx)
      intro w5 ho5 hg5
      have hc5 : Chg (fun z => (Value.slice (some ⟨GG, 0, none⟩) k n).ownBlock = some z) (w4.alloc (.cells #[.int .i64 bk, .int .i64 u, .int .i64 s, .int .i64 sk] 45)) w5 := (Chg.refl _ _).grown hg5 (fun g e => .inl e)
      have hlo := fun g e => (hown.lt g e).1
      have hnr := own_neT hown HCB.out.2.2 (by decide)
      have HS5 : Hid (Sms w5 N bk sk) := HCB.out.2.1.keep hc5 (fun e => by have := hlo N e; omega)
      have HA5 : Hid (w5.heap[wr.heap.size]? = some (.cells #[.int .i64 u, .int .i64 s] 43 (0, 0))) := blk_keep HCB.out.2.2 hc5 (fun e => hnr e)
      have HC5 : Hid (Chg (fun _ => False) w0 w5) := HCB.out.1.trans hc5 (fun z e => .inr (by have h1 := hlo z e; have h2 := HNN.out; omega))
      have HO5 : Hid (PlO w5 (N + 1) (.slice (some ⟨GG, 0, none⟩) (k + 1) n) (pk ++ [⟨bk, ⟨u, s⟩, sk⟩])) := PlO.push HOA.out (by rw [HPK.out]) ho5
      have HF : Hid _ := take23_any N bk sk u s w5 HS5.out HBK.out.1 HBK.out.2.1 HBK.out.2.2.1 HBK.out.2.2.2 HII.out
      have m0 := cell0 HA5.out
      have m1 := cell1 HA5.out
      clear ho5 hg5 hc5 hlo hnr hown hB HCB s0 s1 HOA x0 x1
      generalize Ix23.fitB bk sk ⟨u, s⟩ = ok at *
      go_wp2_with fail
      refine Calls.mono HF.out ?_
      rintro z w6 ⟨rfl, h6, c6⟩
      have HC6 : Hid (Chg (fun _ => False) w0 w6) := HC5.out.trans c6 (fun z e => .inr (by have := HNN.out; omega))
      have HO6 : Hid (PlO w6 (N + 1) (.slice (some ⟨GG, 0, none⟩) (k + 1) n) (pk ++ [⟨bk, ⟨u, s⟩, sk⟩])) := owns_keepI HO5.out c6 (fun g e e2 => by have := (World.ownsRow.lt HO5.out g e).1; omega)
      have H6 : Hid (ok = true → Sms w6 N (bk + Ix23.pad u) (sk + s)) := h6
      clear h6 c6 m0 m1 HF HC5 HO5 HS5 HA5
      cases ok
      · have HE : Hid (Ix23.placesI frm l = ([], 0, 0, 7)) := HNO.out (fun f => by
          have h1 := HBD.out rfl
          have h2 := HRI.out.2 ⟨f.1, f.2.2⟩
          rw [h1] at h2
          cases h2)
        clear HNO HYES
        go_wp2
        refine bodyPost_ret (results_tmp4 rfl _ _ _) rfl ?_
        exact ⟨_, (by rw [HE.out]; rfl), (by rw [HE.out]; exact World.ownsRow_nil _ _ _ _), HC6.out⟩
      · obtain ⟨n1, n2, n3⟩ := HNX.out rfl
        have HR7 : Hid (Ix23.rightB frm 0 (l.take (k + 1)) = true) := n1
        have HS7 : Hid (Sms w6 N (frm + Ix23.bsum (l.take (k + 1))) (Ix23.ssum (l.take (k + 1)))) := by
          show Sms _ _ _ _
          rw [← n2, ← n3]
          exact H6.out rfl
        have HO7 : Hid (PlO w6 (N + 1) (.slice (some ⟨GG, 0, none⟩) (k + 1) n) (Ix23.placeL frm 0 (l.take (k + 1)))) := by
          show PlO _ _ _ _
          rw [HPN.out]
          exact HO6.out
        clear n1 n2 n3 H6 HO6 HNX HBD HPN
        go_wp2
        go_roundw
        case rel => exact ⟨k + 1, by omega, by go_num, HR7, HS7, rfl, HO7, HC6⟩
        case measure => simp [intOf]; omega
    · obtain rfl : k = n := by omega
      rw [List.take_of_length_le (by rw [HLN.out]; omega)] at HO HR HS HPK
      obtain ⟨r1, r2⟩ := HRI.out.1 HR.out
      have HE : Hid (Ix23.placesI frm l = (Ix23.placeL frm 0 l, frm + Ix23.bsum l, Ix23.ssum l, 0)) := HYES.out r1 hfr r2
      have s0 := cell0 HS.out
      have s1 := cell1 HS.out
      clear HNO HYES r1 r2
      go_upto_region 12 with fail
      go_quiet (fail)
      go_wp2
      refine bodyPost_ret (results_tmp4 rfl _ _ _) rfl ?_
      exact ⟨_, (by rw [HE.out]; rfl), (by rw [HE.out]; exact owns_base (HO.out.new (chg_drewN _ _)) (by rw [HNN.out]; omega)), chg_then HC.out (chg_drewN _ _)⟩
end Go.Proofs.YtehfcfpbjenmjaaDoor
