/- The walk of IndexFills; of no statement by itself. -/
import Derived.Test.YtehfcfpbjenmjaaDoorIxp
import Derived.Test.YtehfcfpbjenmjaaDoorIxh
namespace Go.Proofs.YtehfcfpbjenmjaaDoor
open Go.RowKit
set_option linter.unusedVariables false
set_option linter.unusedSimpArgs false
/-- Whole numbers that came in. -/
structure InF (w : World) (ad : Option Addr) (n c : Nat) (l : List Int) : Prop where
  src : From w ad n c 1 (ins .i64 l)
  len : l.length = n
  rng : ∀ (k : Nat) (x : Int), l[k]? = some x → I64 x
theorem InF.new {w w' : World} {ad : Option Addr} {n c : Nat} {l : List Int} (h : InF w ad n c l) (hc : Chg (fun _ => False) w w') : InF w' ad n c l := ⟨h.src.keep hc, h.len, h.rng⟩
theorem InF.at {w : World} {ad : Option Addr} {n c : Nat} {l : List Int} (h : InF w ad n c l) {k : Nat} (hk : k < n) : ∃ x b off, I64 x ∧ l[k]? = some x ∧ ad = some ⟨b, off, none⟩ ∧ w.cell? ⟨b, off + k, none⟩ = some (.int .i64 x) := by
  have hk2 : k < l.length := by rw [h.len]; exact hk
  have e := List.getElem?_eq_getElem hk2
  obtain ⟨b, off, e1, h0⟩ := from_cell h.src (ins_at .i64 l k hk2)
  exact ⟨_, b, off, h.rng k _ e, e, e1, h0⟩
theorem bsum_four : ∀ l : List Rec, Ix23.bsum l % 4 = 0
  | [] => by simp [Ix23.bsum]
  | r :: l => by
    have h1 := bsum_four l
    have h2 := (Ix23.pad_is r.u).2.2
    rw [Ix23.bsum]
    omega
theorem cells4p {w : World} {a : Nat} {x0 x1 x2 x3 : Value} {t : TypeId} (h : w.heap[a]? = some (.cells #[x0, x1, x2, x3] t (0, 0))) : w.cell? ⟨a, 0, none⟩ = some x0 ∧ w.cell? ⟨a, 1, none⟩ = some x1 ∧ w.cell? ⟨a, 2, none⟩ = some x2 ∧ w.cell? ⟨a, 3, none⟩ = some x3 :=
  ⟨by simp [World.cell?, h], by simp [World.cell?, h], by simp [World.cell?, h], by simp [World.cell?, h]⟩
theorem scan_step {off : Int} {P : List Plc} {k : Nat} {p : Plc} {c : Nat × Int} (hp : P[k]? = some p) (h : Ix23.scan off 0 (0, -1) (P.take k) = c) : Ix23.scan off 0 (0, -1) (P.take (k + 1)) = if Ix23.hit off p = true then (c.1 + 1, (k : Int)) else c := by
  obtain ⟨hk, e⟩ := List.getElem?_eq_some_iff.1 hp
  rw [List.take_succ_eq_append_getElem hk, Ix23.scan_app, h, List.length_take, Nat.min_eq_left (by omega), e, Nat.zero_add]
  rfl
variable {Tab : World → Prop}
set_option maxHeartbeats 32000000 in
set_option maxRecDepth 100000 in
theorem fills23_any (S : IndexSpec Tab) (frm : Int) (ad : Option Addr) (n c : Nat) (l : List Rec) (aa : Option Addr) (an ac : Nat) (as_ : List Int) (w0 : World) (hT : Tab w0) (hf : I64 frm) (h : RcF w0 ad n c l) (hn : n ≤ 8796093022208) (ha : InF w0 aa an ac as_) (han : an ≤ 140737488355328) : Calls Tryd.prog 6 #[.int .i64 frm, .slice ad n c, .slice aa an ac] w0 fun e w' => e = .returned (.bool true) ∧ Chg (fun _ => False) w0 w' := by
  have HT : Hid (Tab w0) := hT
  have HK : Hid (∀ ww, Chg (fun _ => False) w0 ww → Calls Tryd.prog 11 #[] ww fun e w' => e = .returned (.bool true) ∧ Chg (fun _ => False) ww w') := fun ww hc => known23_any S ww (S.keep HT.out hc)
  have HP : Hid _ := S.places frm ad n c l w0 hT h hn hf
  have HL0 : Hid (RcF w0 ad n c l) := h
  have HA0 : Hid (InF w0 aa an ac as_) := ha
  have HLN : Hid (l.length = n) := h.len
  obtain ⟨f0, f1⟩ := hf
  have hni : (n : Int) ≤ 8796093022208 := by omega
  have hani : (an : Int) ≤ 140737488355328 := by omega
  by_cases hok : Ix23.rightB 0 0 l = true ∧ 0 ≤ frm ∧ frm + Ix23.bsum l ≤ 9223372036854775807
  rotate_left
  · have hor : frm < 0 ∨ 0 < n := by
      by_cases h0 : 0 < n
      · exact .inr h0
      · have : l = [] := List.eq_nil_of_length_eq_zero (by have := HLN.out; omega)
        subst this
        refine .inl ?_
        by_cases h1 : frm < 0
        · exact h1
        · exact absurd ⟨rfl, by omega, by simp only [Ix23.bsum]; omega⟩ hok
    rw [placesI_no hok] at HP
    clear hT h ha hok
    go_enter Tryd.func6, Tryd.ntmps6
    go_wp2_with fail
    refine Calls.mono HP.out ?_
    rintro z w1 ⟨sv, rfl, hs, c1⟩
    obtain ⟨pa, pc, rfl, _⟩ := formI hs
    have HC1 : Hid (Chg (fun _ => False) w0 w1) := c1
    clear hs c1 HP
    go_wp2_with fail
    refine Calls.mono (num_q _ _) ?_
    rintro z w9 ⟨rfl, rfl⟩
    go_wp2_with fail
    refine Calls.mono (num_q _ _) ?_
    rintro z w9 ⟨rfl, rfl⟩
    by_cases h1 : frm < 0
    · clear hor
      go_wp2_with fail
      refine Calls.mono (HK.out _ HC1.out) ?_
      rintro z w9 ⟨rfl, c9⟩
      have HC9 : Hid (Chg (fun _ => False) w0 w9) := chg_then HC1.out c9
      clear c9
      go_wp2
      go_ret
      exact ⟨rfl, HC9.out⟩
    · have hn0 : 0 < n := by omega
      have d1 : decide (0 < (n : Int)) = true := decide_eq_true (by omega)
      clear hor
      go_wp2_with fail
      refine Calls.mono (HK.out _ HC1.out) ?_
      rintro z w9 ⟨rfl, c9⟩
      have HC9 : Hid (Chg (fun _ => False) w0 w9) := chg_then HC1.out c9
      clear c9
      go_wp2
      go_ret
      exact ⟨rfl, HC9.out⟩
  obtain ⟨hr, h0, hE⟩ := hok
  have HR : Hid (Ix23.rightB 0 0 l = true) := hr
  rw [placesI_yes hr h0 hE] at HP
  simp only at HP
  have hsb := sum_bd hr
  have hpl := Ix23.placeL_len frm 0 l
  rw [h.len] at hpl
  have HPA : Hid (∀ (k : Nat) (q : Rec), l[k]? = some q → (Ix23.placeL frm 0 l)[k]? = some ⟨frm + Ix23.bsum (l.take k), q, Ix23.ssum (l.take k)⟩) := fun k q hk => by rw [Ix23.placeL_at hk, Int.zero_add]
  have HPI : Hid _ := places_I hr h0 hE
  have HFD : Hid (∀ (off : Int) (pa : Option Addr) (pc : Nat) (ww : World), Chg (fun _ => False) w0 ww → I64 off → PlF ww pa n pc (Ix23.placeL frm 0 l) → Calls Tryd.prog 15 #[.int .i64 off, .slice pa n pc] ww fun e w' => e = .returned (.int .i64 (Ix23.findI 0 off (Ix23.placeL frm 0 l))) ∧ Chg (fun _ => False) ww w') := fun off pa pc ww hc hI hpf => S.find off frm pa n pc l ww (S.keep HT.out hc) hr h0 hE hpf hn hI
  have hpos : ∀ r ∈ l, 0 ≤ r.s := fun r hr2 => ((Ix23.right_is hr (by omega) (by omega)).1 r hr2).2.2.1
  have HFN : Hid (∀ off, off < 0 → Ix23.findI 0 off (Ix23.placeL frm 0 l) = -1 ∧ Ix23.scan off 0 (0, -1) (Ix23.placeL frm 0 l) = (0, -1)) := fun off ho => Ix23.find_no off 0 (0, -1) frm 0 l hpos ho
  have HFI : Hid (∀ off, 0 ≤ off → (off < Ix23.ssum l ∧ ∃ k : Nat, Ix23.findI 0 off (Ix23.placeL frm 0 l) = (k : Int) ∧ Ix23.scan off 0 (0, -1) (Ix23.placeL frm 0 l) = (1, (k : Int))) ∨ (Ix23.ssum l ≤ off ∧ Ix23.findI 0 off (Ix23.placeL frm 0 l) = -1 ∧ Ix23.scan off 0 (0, -1) (Ix23.placeL frm 0 l) = (0, -1))) := fun off ho => by
    rcases Ix23.find_is off 0 (0, -1) frm 0 l hpos ho with ⟨a, k, _, b, d⟩ | ⟨a, b, d⟩
    · simp only [Nat.zero_add] at b d
      exact .inl ⟨by omega, k, b, d⟩
    · exact .inr ⟨by omega, b, d⟩
  have HFH : Hid (∀ (off : Int) (k : Nat) (p : Plc), (Ix23.placeL frm 0 l)[k]? = some p → Ix23.hit off p = true → Ix23.findI 0 off (Ix23.placeL frm 0 l) = (k : Int)) := fun off k p hp hh => by
    have := (Ix23.find_hit off 0 frm 0 l k p hpos hp hh).1
    rw [Nat.zero_add] at this
    exact this
  have HB4 : Hid (∀ k, Ix23.bsum (l.take k) % 4 = 0) := fun k => bsum_four _
  have HTK : Hid (∀ (k : Nat) (q : Rec), l[k]? = some q → Ix23.bsum (l.take (k + 1)) = Ix23.bsum (l.take k) + Ix23.pad q.u ∧ Ix23.ssum (l.take (k + 1)) = Ix23.ssum (l.take k) + q.s) := fun k q hk => by
    rw [take_last hk, Ix23.bsum_app, Ix23.ssum_app]
    exact ⟨by simp [Ix23.bsum], by simp [Ix23.ssum]⟩
  have HBP : Hid (∀ k, 0 ≤ Ix23.bsum (l.take k)) := fun k => (sum_bd (right_take hr k)).1
  have HTE : Hid (Ix23.bsum (l.take n) = Ix23.bsum l ∧ Ix23.ssum (l.take n) = Ix23.ssum l) := by
    show _ ∧ _
    rw [List.take_of_length_le (by rw [h.len]; exact Nat.le_refl _)]
    exact ⟨rfl, rfl⟩
  obtain ⟨P, hP⟩ : ∃ P, Ix23.placeL frm 0 l = P := ⟨_, rfl⟩
  rw [hP] at HP hpl HPA HPI HFD HFN HFI HFH
  have HPL : Hid (P.length = n) := hpl
  obtain ⟨Bs, hBs⟩ : ∃ x, Ix23.bsum l = x := ⟨_, rfl⟩
  obtain ⟨A, hA⟩ : ∃ x, Ix23.ssum l = x := ⟨_, rfl⟩
  rw [hBs, hA] at HP HPI hsb HTE
  rw [hBs] at hE
  rw [hA] at HFI
  obtain ⟨E, hEE⟩ : ∃ x, frm + Bs = x := ⟨_, rfl⟩
  rw [hEE] at HP HPI hE
  have HEE : Hid (frm + Bs = E) := hEE
  have hA0 : 0 ≤ A := hsb.2.2.1
  have hA1 : A ≤ 9223372036854775807 := hsb.2.2.2
  clear hT h ha hr hsb hpl hP hBs hA hpos hEE
  go_enter Tryd.func6, Tryd.ntmps6
  go_wp2_with fail
  refine Calls.mono HP.out ?_
  rintro z w1 ⟨sv, rfl, hs, c1⟩
  obtain ⟨pa, pc, rfl, _⟩ := formI hs
  have HC1 : Hid (Chg (fun _ => False) w0 w1) := c1
  have HPF : Hid (PlF w1 pa P.length pc P) := PlO.F hs (fun k p hp => (HPI.out k p hp).1)
  rw [HPL.out] at HPF ⊢
  clear hs c1 HP
  go_wp2_with fail
  refine Calls.mono (num_q _ _) ?_
  rintro z w9 ⟨rfl, rfl⟩
  go_wp2_with fail
  go_loopw [11, 12, 70] (fun x y i wr => ∃ k : Nat, k ≤ n ∧ i = .int .i64 (k : Int) ∧ x = .int .i64 (frm + Ix23.bsum (l.take k)) ∧ y = .int .i64 (Ix23.ssum (l.take k)) ∧ Hid (Chg (fun _ => False) w1 wr)) (fun _ _ i _ => n - (intOf i).toNat)
  case atStart => exact ⟨0, by omega, rfl, by simp [Ix23.bsum], by simp [Ix23.ssum], Chg.refl _ _⟩
  case round =>
    obtain ⟨k, hk, rfl, rfl, rfl, HC⟩ := hrel
    have hki : (k : Int) ≤ (n : Int) := by omega
    by_cases hlt : k < n
    · have d1 : decide ((k : Int) < (n : Int)) = true := decide_eq_true (by omega)
      have d1' : decide (k < n) = true := decide_eq_true hlt
      obtain ⟨q, bx, ox, hq, hI, rfl, y0, y1⟩ := (HL0.out.new (chg_then HC1.out HC.out)).at hlt
      obtain ⟨p, bp, op, hp, hpI, rfl, x0, x1, x2, x3⟩ := (HPF.out.new HC.out).at hlt
      have hp2 := HPA.out k q hq
      rw [hp] at hp2
      simp only [Option.some.injEq] at hp2
      subst hp2
      obtain ⟨_, q', hq', -, p1, p2, p3, p4, p5⟩ := HPI.out k _ hp
      rw [hq] at hq'
      simp only [Option.some.injEq] at hq'
      subst hq'
      obtain ⟨t1, t2⟩ := HTK.out k q hq
      have b4 := HB4.out k
      have b0 := HBP.out k
      obtain ⟨u, s⟩ := q
      simp only at x0 x1 x2 x3 y0 y1 p1 p2 p3 p4 p5 t1 t2
      have hpu := Ix23.pad_is u
      have HNX : Hid (Ix23.bsum (l.take (k + 1)) = Ix23.bsum (l.take k) + Ix23.pad u ∧ Ix23.ssum (l.take (k + 1)) = Ix23.ssum (l.take k) + s) := ⟨t1, t2⟩
      generalize Ix23.pad u = pu at *
      generalize Ix23.bsum (l.take k) = bk at *
      generalize Ix23.ssum (l.take k) = sk at *
      have cA := chg_one wr (.cells #[.int .i64 (frm + bk), .int .i64 u, .int .i64 s, .int .i64 sk] 45)
      obtain ⟨m0, m1, m2, m3⟩ := cells4p (heap_alloc_last wr (.cells #[.int .i64 (frm + bk), .int .i64 u, .int .i64 s, .int .i64 sk] 45))
      have HCA : Hid (Chg (fun _ => False) w1 (wr.alloc (.cells #[.int .i64 (frm + bk), .int .i64 u, .int .i64 s, .int .i64 sk] 45))) := chg_then HC.out cA
      have Y0 := cell_chg y0 cA
      have Y1 := cell_chg y1 cA
      clear hq hI hp hpI t1 t2 cA
      go_upto_region 10 with fail
      clear x0 x1 x2 x3 y0 y1
      generalize wr.alloc (.cells #[.int .i64 (frm + bk), .int .i64 u, .int .i64 s, .int .i64 sk] 45) = wa at *
      generalize wr.heap.size = fb at *
      obtain ⟨A1, hA1_⟩ : ∃ x, frm + bk = x := ⟨_, rfl⟩
      have HA1 : Hid (frm + bk = A1) := hA1_
      rw [hA1_] at m0 p4 ⊢
      have e1 : (A1 != A1) = false := by simp
      have e2 : (sk != sk) = false := by simp
      go_quiet (fail)
      have HCB : Hid (Chg (fun _ => False) w1 (wa.drewN nq)) := chg_then HCA.out (chg_drewN wa nq)
      have M1 := cell_chg m1 (chg_drewN wa nq)
      have M2 := cell_chg m2 (chg_drewN wa nq)
      clear m0 m1 m2 m3 Y0 Y1 e1 e2 HCA
      generalize wa.drewN nq = wb at *
      have hu1 : A1 + u ≤ 9223372036854775807 := by omega
      go_wp2_with fail
      go_loop [11] (fun v => ∃ x : Int, v = .int .i64 x ∧ A1 + u ≤ x ∧ x ≤ A1 + pu) (fun v => (A1 + pu - intOf v).toNat)
      case atStart => exact ⟨A1 + u, by go_num, Int.le_refl _, by omega⟩
      case round =>
        obtain ⟨x, rfl, hx0, hx1⟩ := hrel
        have hxf : 0 ≤ x - frm := by omega
        by_cases hx : x = A1 + pu
        · subst hx
          have g1 : ((A1 + pu - frm) % 4 != 0) = false := by rw [show (A1 + pu - frm) % 4 = 0 by omega]; rfl
          go_wp2
          go_roundw
          case rel => exact ⟨k + 1, by omega, by go_num, by rw [HNX.out.1, ← HA1.out, Int.add_assoc], by rw [HNX.out.2], HCB⟩
          case measure => simp [intOf]; omega
        · have g1 : ((x - frm) % 4 != 0) = true := by rw [bne_iff_ne]; omega
          go_wp2
          go_round
          case rel => exact ⟨x + 1, by go_num, by omega, by omega⟩
          case measure => simp [intOf]; omega
    · obtain rfl : n = k := by omega
      obtain ⟨t1, t2⟩ := HTE.out
      rw [t1, t2, HEE.out]
      have HCK : Hid (Chg (fun _ => False) w0 wr) := chg_then HC1.out HC.out
      have HCW : Hid (Chg (fun _ => False) w1 wr) := HC.out
      have e1 : (E != E) = false := by simp
      have e2 : (A != A) = false := by simp
      have HF1 : Hid _ := HFD.out (-1) pa pc wr HCK.out (by unfold I64; omega) (HPF.out.new HC.out)
      rw [(HFN.out (-1) (by omega)).1] at HF1
      clear t1 t2 HC
      go_wp2_with fail
      refine Calls.mono HF1.out ?_
      rintro z w2 ⟨rfl, c2⟩
      have HCK2 : Hid (Chg (fun _ => False) w0 w2) := chg_then HCK.out c2
      have HCW2 : Hid (Chg (fun _ => False) w1 w2) := chg_then HCW.out c2
      have HF2 : Hid _ := HFD.out A pa pc w2 HCK2.out (by unfold I64; omega) (HPF.out.new HCW2.out)
      have hfa : Ix23.findI 0 A P = -1 := by
        rcases HFI.out A hA0 with ⟨h9, _⟩ | ⟨_, h9, _⟩
        · omega
        · exact h9
      rw [hfa] at HF2
      clear c2 HF1 HCK HCW hfa
      go_wp2_with fail
      refine Calls.mono HF2.out ?_
      rintro z w3 ⟨rfl, c3⟩
      have HCK3 : Hid (Chg (fun _ => False) w0 w3) := chg_then HCK2.out c3
      have HCW3 : Hid (Chg (fun _ => False) w1 w3) := chg_then HCW2.out c3
      clear c3 HF2 HCK2 HCW2 e1 e2
      go_wp2_with fail
      go_loopw [133] (fun i wr => ∃ j : Nat, j ≤ an ∧ i = .int .i64 (j : Int) ∧ Hid (Chg (fun _ => False) w1 wr)) (fun i _ => an - (intOf i).toNat)
      case atStart => exact ⟨0, by omega, rfl, HCW3.out⟩
      case round =>
        obtain ⟨j, hj, rfl, HC⟩ := hrel
        have hji : (j : Int) ≤ (an : Int) := by omega
        by_cases hlt : j < an
        · have d1 : decide ((j : Int) < (an : Int)) = true := decide_eq_true (by omega)
          have d1' : decide (j < an) = true := decide_eq_true hlt
          obtain ⟨off, ba, oa, hoI, hof, rfl, x0⟩ := (HA0.out.new (chg_then HC1.out HC.out)).at hlt
          obtain ⟨o0, o1⟩ := hoI
          clear hof
          go_wp2_with fail
          go_loopw [17, 18, 139] (fun mv wv i wr => ∃ (k mn : Nat) (wh : Int), k ≤ n ∧ i = .int .i64 (k : Int) ∧ mv = .int .i64 (mn : Int) ∧ wv = .int .i64 wh ∧ mn ≤ k ∧ Hid (Ix23.scan off 0 (0, -1) (P.take k) = (mn, wh)) ∧ Hid (Chg (fun _ => False) w1 wr)) (fun _ _ i _ => n - (intOf i).toNat)
          case atStart => exact ⟨0, 0, -1, by omega, rfl, rfl, rfl, by omega, rfl, HC.out⟩
          case round =>
            obtain ⟨k, mn, wh, hk, rfl, rfl, rfl, hmk, HS, HCI⟩ := hrel
            have hki2 : (k : Int) ≤ (n : Int) := by omega
            by_cases hkl : k < n
            · have g1 : decide ((k : Int) < (n : Int)) = true := decide_eq_true (by omega)
              have g1' : decide (k < n) = true := decide_eq_true hkl
              obtain ⟨p, bp, op, hp, hpI, hpab, x0, x1, x2, x3⟩ := (HPF.out.new HCI.out).at hkl
              subst hpab
              obtain ⟨_, q', -, hpe, p1, p2, p3, p4, p5⟩ := HPI.out k _ hp
              have hst := scan_step hp HS.out
              have hhi := @Ix23.hit_is off p
              have hps : p.st = Ix23.ssum (l.take k) := by rw [hpe]
              have hpr : p.r.s = q'.s := by rw [hpe]
              rw [← hps] at p2 p3
              rw [← hpr] at p1 p3
              obtain ⟨o, ⟨u, s⟩, st⟩ := p
              obtain ⟨_, ⟨_, _, _⟩, _, _⟩ := hpI
              simp only at x0 x1 x2 x3 p1 p2 p3 hst hhi
              have HST : Hid _ := hst
              have HHI : Hid _ := hhi
              have cA := chg_one wr (.cells #[.int .i64 o, .int .i64 u, .int .i64 s, .int .i64 st] 45)
              obtain ⟨m0, m1, m2, m3⟩ := cells4p (heap_alloc_last wr (.cells #[.int .i64 o, .int .i64 u, .int .i64 s, .int .i64 st] 45))
              have HCA : Hid (Chg (fun _ => False) w1 (wr.alloc (.cells #[.int .i64 o, .int .i64 u, .int .i64 s, .int .i64 st] 45))) := chg_then HCI.out cA
              clear hp cA hst hhi hps hpr hpe p4 p5
              go_upto_region 26 with fail
              clear x0 x1 x2 x3
              generalize wr.alloc (.cells #[.int .i64 o, .int .i64 u, .int .i64 s, .int .i64 st] 45) = wa at *
              generalize wr.heap.size = fb at *
              by_cases h1 : st ≤ off
              · have k1 : decide (st ≤ off) = true := decide_eq_true h1
                by_cases h2 : off - st < s
                · have k2 : decide (off - st < s) = true := decide_eq_true h2
                  have HS2 : Hid (Ix23.scan off 0 (0, -1) (P.take (k + 1)) = (mn + 1, (k : Int))) := by
                    show _ = _
                    rw [HST.out, if_pos (HHI.out.2 ⟨h1, h2⟩)]
                  clear HST HHI
                  go_wp2
                  go_roundw
                  case rel => exact ⟨k + 1, mn + 1, (k : Int), by omega, by go_num, by go_num, rfl, by omega, HS2, HCA⟩
                  case measure => simp [intOf]; omega
                · have k2 : decide (off - st < s) = false := decide_eq_false h2
                  have HS2 : Hid (Ix23.scan off 0 (0, -1) (P.take (k + 1)) = (mn, wh)) := by
                    show _ = _
                    rw [HST.out, if_neg (fun f => h2 (HHI.out.1 f).2)]
                  clear HST HHI
                  go_wp2
                  go_roundw
                  case rel => exact ⟨k + 1, mn, wh, by omega, by go_num, rfl, rfl, by omega, HS2, HCA⟩
                  case measure => simp [intOf]; omega
              · have k1 : decide (st ≤ off) = false := decide_eq_false h1
                have HS2 : Hid (Ix23.scan off 0 (0, -1) (P.take (k + 1)) = (mn, wh)) := by
                  show _ = _
                  rw [HST.out, if_neg (fun f => h1 (HHI.out.1 f).1)]
                clear HST HHI
                go_wp2
                go_roundw
                case rel => exact ⟨k + 1, mn, wh, by omega, by go_num, rfl, rfl, by omega, HS2, HCA⟩
                case measure => simp [intOf]; omega
            · obtain rfl : n = k := by omega
              have hsc := HS.out
              rw [List.take_of_length_le (by rw [HPL.out]; exact Nat.le_refl _)] at hsc
              have HCK4 : Hid (Chg (fun _ => False) w0 wr) := chg_then HC1.out HCI.out
              have HF3 := HFD.out off pa pc wr HCK4.out ⟨o0, o1⟩ (HPF.out.new HCI.out)
              have key : (Ix23.findI 0 off P = wh) ∧ (off < 0 ∧ mn = 0 ∨ 0 ≤ off ∧ off < A ∧ mn = 1 ∨ 0 ≤ off ∧ A ≤ off ∧ mn = 0) := by
                by_cases hneg : off < 0
                · obtain ⟨a, b⟩ := HFN.out off hneg
                  rw [hsc] at b
                  simp only [Prod.mk.injEq] at b
                  exact ⟨by rw [a, b.2], .inl ⟨hneg, b.1⟩⟩
                · rcases HFI.out off (by omega) with ⟨a, kx, b, d⟩ | ⟨a, b, d⟩
                  · rw [hsc] at d
                    simp only [Prod.mk.injEq] at d
                    exact ⟨by rw [b, d.2], .inr (.inl ⟨by omega, a, d.1⟩)⟩
                  · rw [hsc] at d
                    simp only [Prod.mk.injEq] at d
                    exact ⟨by rw [b, d.2], .inr (.inr ⟨by omega, a, d.1⟩)⟩
              obtain ⟨kf, kc⟩ := key
              rw [kf] at HF3
              have HF3 : Hid _ := HF3
              have e1 : (wh != wh) = false := by simp
              clear hsc HS kf
              go_wp2_with fail
              refine Calls.mono HF3.out ?_
              rintro z w4 ⟨rfl, c4⟩
              have HCW4 : Hid (Chg (fun _ => False) w1 w4) := chg_then HCI.out c4
              clear c4 HF3
              rcases kc with ⟨a, rfl⟩ | ⟨a, b, rfl⟩ | ⟨a, b, rfl⟩
              · have z1 : decide (0 ≤ off) = false := decide_eq_false (by omega)
                go_wp2
                go_roundw
                case rel => exact ⟨j + 1, by omega, by go_num, HCW4⟩
                case measure => simp [intOf]; omega
              · have z1 : decide (0 ≤ off) = true := decide_eq_true a
                have z2 : decide (off < A) = true := decide_eq_true b
                go_wp2
                go_roundw
                case rel => exact ⟨j + 1, by omega, by go_num, HCW4⟩
                case measure => simp [intOf]; omega
              · have z1 : decide (0 ≤ off) = true := decide_eq_true a
                have z2 : decide (off < A) = false := decide_eq_false (by omega)
                go_wp2
                go_roundw
                case rel => exact ⟨j + 1, by omega, by go_num, HCW4⟩
                case measure => simp [intOf]; omega
        · obtain rfl : j = an := by omega
          have d1 : decide ((j : Int) < (j : Int)) = false := decide_eq_false (by omega)
          go_wp2_with fail
          go_loopw [186] (fun i wr => ∃ k : Nat, k ≤ n ∧ i = .int .i64 (k : Int) ∧ Hid (Chg (fun _ => False) w1 wr)) (fun i _ => n - (intOf i).toNat)
          case atStart => exact ⟨0, by omega, rfl, HC.out⟩
          case round =>
            obtain ⟨k, hk, rfl, HCI⟩ := hrel
            have hki2 : (k : Int) ≤ (n : Int) := by omega
            by_cases hkl : k < n
            · have g1 : decide ((k : Int) < (n : Int)) = true := decide_eq_true (by omega)
              have g1' : decide (k < n) = true := decide_eq_true hkl
              obtain ⟨p, bp, op, hp, hpI, hpab, x0, x1, x2, x3⟩ := (HPF.out.new HCI.out).at hkl
              subst hpab
              obtain ⟨_, q', -, hpe, p1, p2, p3, p4, p5⟩ := HPI.out k _ hp
              have hps : p.st = Ix23.ssum (l.take k) := by rw [hpe]
              have hpr : p.r.s = q'.s := by rw [hpe]
              rw [← hps] at p2 p3
              rw [← hpr] at p1 p3
              have HHT : Hid _ := fun off (hh : Ix23.hit off p = true) => HFH.out off k p hp hh
              have hhi := fun off => @Ix23.hit_is off p
              obtain ⟨o, ⟨u, s⟩, st⟩ := p
              simp only at x0 x1 x2 x3 p1 p2 p3 hhi
              have HHI : Hid _ := hhi
              have cA := chg_one wr (.cells #[.int .i64 o, .int .i64 u, .int .i64 s, .int .i64 st] 45)
              obtain ⟨m0, m1, m2, m3⟩ := cells4p (heap_alloc_last wr (.cells #[.int .i64 o, .int .i64 u, .int .i64 s, .int .i64 st] 45))
              have HCA : Hid (Chg (fun _ => False) w1 (wr.alloc (.cells #[.int .i64 o, .int .i64 u, .int .i64 s, .int .i64 st] 45))) := chg_then HCI.out cA
              clear hp hpI cA hhi hps hpr hpe p4 p5
              go_upto_region 35 with fail
              clear x0 x1 x2 x3
              generalize wr.alloc (.cells #[.int .i64 o, .int .i64 u, .int .i64 s, .int .i64 st] 45) = wa at *
              generalize wr.heap.size = fb at *
              by_cases hs0 : 0 < s
              · have k1 : decide (0 < s) = true := decide_eq_true hs0
                have HF5 := HFD.out st _ pc wa (chg_then HC1.out HCA.out) (by unfold I64; omega) (HPF.out.new HCA.out)
                rw [HHT.out st ((HHI.out st).2 ⟨Int.le_refl _, by omega⟩)] at HF5
                have HF5 : Hid _ := HF5
                go_wp2_with fail
                refine Calls.mono HF5.out ?_
                rintro z w5 ⟨rfl, c5⟩
                have M2 := cell_chg m2 c5
                have M3 := cell_chg m3 c5
                have HCB : Hid (Chg (fun _ => False) w1 w5) := chg_then HCA.out c5
                have HF6 := HFD.out (st + s - 1) _ pc w5 (chg_then HC1.out HCB.out) (by unfold I64; omega) (HPF.out.new HCB.out)
                rw [HHT.out (st + s - 1) ((HHI.out (st + s - 1)).2 ⟨by omega, by omega⟩)] at HF6
                have HF6 : Hid _ := HF6
                have e1 : ((k : Int) != (k : Int)) = false := by simp
                clear c5 m0 m1 m2 m3 HF5 HHT HHI
                go_wp2_with fail
                refine Calls.mono HF6.out ?_
                rintro z w6 ⟨rfl, c6⟩
                have HCD : Hid (Chg (fun _ => False) w1 w6) := chg_then HCB.out c6
                clear c6 HF6
                go_wp2
                go_roundw
                case rel => exact ⟨k + 1, by omega, by go_num, HCD⟩
                case measure => simp [intOf]; omega
              · have k1 : decide (0 < s) = false := decide_eq_false hs0
                clear HHT HHI
                go_wp2
                go_roundw
                case rel => exact ⟨k + 1, by omega, by go_num, HCA⟩
                case measure => simp [intOf]; omega
            · obtain rfl : n = k := by omega
              have HCK9 : Hid (Chg (fun _ => False) w0 wr) := chg_then HC1.out HCI.out
              go_wp2_with fail
              refine Calls.mono (HK.out _ HCK9.out) ?_
              rintro z w9 ⟨rfl, c9⟩
              have HC9 : Hid (Chg (fun _ => False) w0 w9) := chg_then HCK9.out c9
              clear c9
              go_wp2
              go_ret
              exact ⟨rfl, HC9.out⟩
end Go.Proofs.YtehfcfpbjenmjaaDoor
