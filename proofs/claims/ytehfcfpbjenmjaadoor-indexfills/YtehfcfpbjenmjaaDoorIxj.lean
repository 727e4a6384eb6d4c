/- The document's own Put of an index; of no statement by itself. -/
import Derived.Test.YtehfcfpbjenmjaaDoorIxi
namespace Go.Proofs.YtehfcfpbjenmjaaDoor
open Go.RowKit
set_option linter.unusedVariables false
set_option linter.unusedSimpArgs false
theorem recs_len (l : List Rec) : (Ix23.recs l).length ≤ 18 * l.length := by
  induction l with
  | nil => simp [Ix23.recs]
  | cons r l ih =>
    have h1 := vbn_le r.u.toNat
    have h2 := vbn_le r.s.toNat
    rw [Ix23.recs, Ix23.one]
    simp only [List.length_append, List.length_cons]
    omega
theorem byO_lit1 (w : World) (x : Nat) : ByO (w.alloc (.cells #[.int .u8 (x : Int)] 5)) w.heap.size (.slice (some ⟨w.heap.size, 0, none⟩) 1 1) [x] := by
  have h := World.ownsRow_lit (base := w.heap.size) (e := 5) (size := 1) w #[.int .u8 (x : Int)] 1 (Nat.le_refl _) (by decide) rfl
  exact h
def lenV : Value → Nat
  | .slice _ n _ => n
  | _ => 0
theorem recs_step {l : List Rec} {k : Nat} {q : Rec} (h : l[k]? = some q) : Ix23.recs (l.take (k + 1)) = Ix23.recs (l.take k) ++ vbn q.u.toNat ++ vbn q.s.toNat := by
  rw [take_last h, Ix23.recs_app, Ix23.recs, Ix23.one, Ix23.recs]
  simp
set_option maxHeartbeats 16000000 in
set_option maxRecDepth 100000 in
theorem rput23_any (ad : Option Addr) (n c : Nat) (l : List Rec) (w0 : World) (h : RcF w0 ad n c l) (hn : n ≤ 4398046511104) : Calls Tryd.prog 18 #[.slice ad n c] w0 fun e w' => ∃ ov, e = .returned (.tuple #[ov, .int .i64 (Ix23.putI l).2]) ∧ ByO w' w0.heap.size ov (Ix23.putI l).1 ∧ Chg (fun _ => False) w0 w' := by
  obtain ⟨iu, hiu, hu0, hu1, hu2⟩ := info_parts info5u
  have HL : Hid (RcF w0 ad n c l) := h
  have HLN : Hid (l.length = n) := h.len
  have hni : (n : Int) ≤ 4398046511104 := by omega
  have HR : Hid _ := right23_any ad n c l w0 h (by omega)
  clear h
  obtain ⟨ok, hok⟩ : ∃ b, Ix23.rightB 0 0 l = b := ⟨_, rfl⟩
  have HOK : Hid (Ix23.rightB 0 0 l = ok) := hok
  rw [hok] at HR
  clear hok
  go_enter Tryd.func18, Tryd.ntmps18
  go_wp2_with fail
  refine Calls.mono HR.out ?_
  rintro z w1 ⟨x, y, rfl, hxy, c1⟩
  have HC1 : Hid (Chg (fun _ => False) w0 w1) := c1
  clear hxy c1 HR
  cases ok
  · have HE : Hid (Ix23.putI l = ([], 7)) := Ix23.putI_7 (by rw [HOK.out]; simp)
    go_wp2
    go_ret2
    exact ⟨_, (by rw [HE.out]; rfl), (by rw [HE.out]; exact byO_nil _ _), HC1.out⟩
  · have HE : Hid (Ix23.putI l = (Ix23.body l ++ crc4 (Ix23.body l), 0)) := Ix23.putI_0 HOK.out
    have cA := chg_one w1 (.cells #[.int .u8 0] 5)
    have hA := byO_lit1 w1 0
    have hBA : w0.heap.size ≤ (w1.alloc (.cells #[.int .u8 0] 5)).heap.size := (chg_then HC1.out cA).size
    have HN0 : Hid _ := number23_any w0.heap.size _ 1 1 n [0] _ (owns_base hA HC1.out.size) hBA (by omega) (by omega)
    have HCA : Hid (Chg (fun _ => False) w0 (w1.alloc (.cells #[.int .u8 0] 5))) := chg_then HC1.out cA
    have HLA : Hid (∀ g, (Value.slice (some ⟨w1.heap.size, 0, none⟩) 1 1).ownBlock = some g → w0.heap.size ≤ g) := fun g e => by
      simp [Value.ownBlock] at e
      have := HC1.out.size
      omega
    have hv0 := vbn_le n
    clear cA hA
    go_wp2_with fail
    refine Calls.mono HN0.out ?_
    rintro z w2 ⟨oa, oc, rfl, ho, c2⟩
    have HO2 : Hid (ByO w2 w0.heap.size (.slice oa (1 + (vbn n).length) oc) (0 :: (vbn n ++ Ix23.recs (l.take 0)))) := by
      show ByO _ _ _ _
      rw [List.take_zero, Ix23.recs, List.append_nil]
      exact ho
    have HC2 : Hid (Chg (fun _ => False) w0 w2) := HCA.out.trans c2 (fun g e => .inr (HLA.out g e))
    clear ho c2 HN0 HLA HCA hBA
    go_wp2_with fail
    go_loopw [7, 8] (fun v i wr => ∃ k : Nat, k ≤ n ∧ i = .int .i64 (k : Int) ∧ Hid (ByO wr w0.heap.size v (0 :: (vbn n ++ Ix23.recs (l.take k)))) ∧ Hid (Chg (fun _ => False) w0 wr)) (fun _ i _ => n - (intOf i).toNat)
    case atStart => exact ⟨0, by omega, rfl, HO2, HC2⟩
    case round =>
      obtain ⟨k, hk, rfl, HO, HC⟩ := hrel
      have hki : (k : Int) ≤ (n : Int) := by omega
      obtain ⟨va, vc, rfl⟩ := byO_form HO.out
      have hln := recs_len (l.take k)
      have hlk : (l.take k).length = k := by rw [List.length_take, HLN.out]; omega
      rw [hlk] at hln
      obtain ⟨LL, hLL⟩ : ∃ L, (0 :: (vbn n ++ Ix23.recs (l.take k))).length = L := ⟨_, rfl⟩
      have hLb : LL ≤ 10 + 18 * k := by
        rw [← hLL]
        simp only [List.length_cons, List.length_append]
        omega
      rw [hLL] at HO ⊢
      by_cases hlt : k < n
      · have d1 : decide ((k : Int) < (n : Int)) = true := decide_eq_true (by omega)
        have d1' : decide (k < n) = true := decide_eq_true hlt
        obtain ⟨q, bx, ox, hq, hI, rfl, x0, x1⟩ := (HL.out.new HC.out).at hlt
        have hru := (Ix23.right_is HOK.out (by omega) (by omega)).1 q (List.mem_of_getElem? hq)
        have hst := recs_step hq
        obtain ⟨u, s⟩ := q
        simp only at x0 x1 hru hst
        obtain ⟨U, hU⟩ : ∃ U : Nat, (U : Int) = u := ⟨u.toNat, Int.toNat_of_nonneg (by omega)⟩
        obtain ⟨S, hS⟩ : ∃ S : Nat, (S : Int) = s := ⟨s.toNat, Int.toNat_of_nonneg (by omega)⟩
        subst hU hS
        rw [Int.toNat_natCast, Int.toNat_natCast] at hst
        have HQ : Hid (l[k]? = some ⟨U, S⟩) := hq
        have HST : Hid _ := hst
        have HN1 : Hid _ := number23_any w0.heap.size va LL vc U _ wr HO.out HC.out.size (by omega) (by omega)
        have HLT : Hid (∀ g, (Value.slice va LL vc).ownBlock = some g → w0.heap.size ≤ g) := fun g e => (World.ownsRow.lt HO.out g e).1
        have hvU := vbn_le U
        have hvS := vbn_le S
        clear hq hI hst hlk hLL
        go_wp2_with fail
        refine Calls.mono HN1.out ?_
        rintro z w3 ⟨a3, d3, rfl, ho3, c3⟩
        have HC3 : Hid (Chg (fun _ => False) w0 w3) := HC.out.trans c3 (fun g e => .inr (HLT.out g e))
        have HN2 : Hid _ := number23_any w0.heap.size a3 (LL + (vbn U).length) d3 S _ w3 ho3 HC3.out.size (by omega) (by omega)
        have HLT3 : Hid (∀ g, (Value.slice a3 (LL + (vbn U).length) d3).ownBlock = some g → w0.heap.size ≤ g) := fun g e => (World.ownsRow.lt ho3 g e).1
        obtain ⟨q9, b9, o9, hq9, -, hab, y0, y1⟩ := (HL.out.new HC3.out).at hlt
        simp only [Option.some.injEq, Addr.mk.injEq, and_true] at hab
        obtain ⟨rfl, rfl⟩ := hab
        rw [HQ.out] at hq9
        simp only [Option.some.injEq] at hq9
        subst hq9
        simp only at y0 y1
        clear ho3 c3 x0 x1 HN1 HLT
        go_wp2_with fail
        refine Calls.mono HN2.out ?_
        rintro z w4 ⟨a4, d4, rfl, ho4, c4⟩
        have HC4 : Hid (Chg (fun _ => False) w0 w4) := HC3.out.trans c4 (fun g e => .inr (HLT3.out g e))
        have HO4 : Hid (ByO w4 w0.heap.size (.slice a4 (LL + (vbn U).length + (vbn S).length) d4) (0 :: (vbn n ++ Ix23.recs (l.take (k + 1))))) := by
          show ByO _ _ _ _
          rw [HST.out]
          simpa using ho4
        clear ho4 c4 y0 y1 HN2 HLT3
        go_wp2
        go_roundw
        case rel => exact ⟨k + 1, by omega, by go_num, HO4, HC4⟩
        case measure => simp [intOf]; omega
      · obtain rfl : k = n := by omega
        rw [List.take_of_length_le (by rw [HLN.out]; omega)] at HO hLL
        have hcl : (0 :: (vbn k ++ Ix23.recs l)) = Ix23.core l := by unfold Ix23.core; rw [HLN.out]
        rw [hcl] at HO hLL
        have HLL : Hid ((Ix23.core l).length = LL) := hLL
        have hzp := Ix23.zpad_is LL
        have HBD : Hid (Ix23.body l = Ix23.core l ++ List.replicate (Ix23.zpad LL) 0) := by show _ = _; rw [← HLL.out]; rfl
        clear hcl hLL hln hlk
        generalize Ix23.zpad LL = ZP at *
        go_wp2_with fail
        go_loopw [7] (fun v wr => ∃ j : Nat, j ≤ ZP ∧ Hid (ByO wr w0.heap.size v (Ix23.core l ++ List.replicate j 0)) ∧ Hid (Chg (fun _ => False) w0 wr) ∧ lenV v = LL + j) (fun v _ => LL + ZP - lenV v)
        case atStart => exact ⟨0, by omega, by show ByO _ _ _ _; rw [List.replicate_zero, List.append_nil]; exact HO.out, HC, rfl⟩
        case round =>
          obtain ⟨j, hj, HO5, HC5, hlv⟩ := hrel
          obtain ⟨v5a, v5c, rfl⟩ := byO_form HO5.out
          have hl5 : (Ix23.core l ++ List.replicate j 0).length = LL + j := by rw [List.length_append, HLL.out, List.length_replicate]
          rw [hl5] at HO5 ⊢
          clear hlv
          by_cases hjz : j < ZP
          · have d2' : (((LL : Int) + (j : Int)) % 4 != 0) = true := by rw [bne_iff_ne]; omega
            have cZ := chg_one wr (.cells #[.int .u8 0] 5)
            have hown := HO5.out.new cZ
            unfold ByO at hown
            rw [hl5] at hown
            have hsrc := own_from (byO_lit1 wr 0)
            have hB6 : w0.heap.size ≤ (wr.alloc (.cells #[.int .u8 0] 5)).heap.size := (chg_then HC5.out cZ).size
            have HC6 : Hid (Chg (fun _ => False) w0 (wr.alloc (.cells #[.int .u8 0] 5))) := chg_then HC5.out cZ
            clear cZ
            go_wp2_with (at_builtin; refine wpList_append_moved rfl _ _ 22 rfl w0.heap.size 5 iu (.int .u8 0) 1 1 Tryd.underlying22 hiu hu0 hu1 hu2 rfl (by decide) _ (LL + j) ((nums (Ix23.core l ++ List.replicate j 0)).map (Value.int .u8)) rfl (some ⟨wr.heap.size, 0, none⟩) 1 1 rfl ((nums [0]).map (Value.int .u8)) ?h1 ?h2 ?h3 ?m1 ?m2 ?m3 ?_)
            case h1 => exact hown
            case h2 => exact hsrc
            case h3 => exact oneB [0]
            case m1 => unfold maxLen; omega
            case m2 => omega
            case m3 => exact hB6
            intro v7 w7 ho7 hg7 hm7
            have HC7 : Hid (Chg (fun _ => False) w0 w7) := HC6.out.grown hg7 (fun g e => .inr ((hown.lt g e).1))
            have hby := byO_app ho7
            rw [List.append_assoc, show List.replicate j 0 ++ [0] = List.replicate (j + 1) 0 by rw [List.replicate_succ']] at hby
            have HO7 : Hid (ByO w7 w0.heap.size v7 (Ix23.core l ++ List.replicate (j + 1) 0)) := hby
            obtain ⟨a7, d7, rfl⟩ := form1 ho7
            clear ho7 hg7 hm7 hby hown hsrc hB6 HC6
            go_wp2
            go_roundw
            case rel => exact ⟨j + 1, by omega, HO7, HC7, rfl⟩
            case measure => simp [lenV]; omega
          · obtain rfl : j = ZP := by omega
            have d2' : (((LL : Int) + (j : Int)) % 4 != 0) = false := by
              have : ((LL : Int) + (j : Int)) % 4 = 0 := by omega
              simp [this]
            rw [← HBD.out] at HO5 hl5
            have HS : Hid _ := rsum23_any v5a (LL + j) v5c (Ix23.body l) wr (byO_row HO5.out).1 (Ix23.body_dig l) (by omega)
            have HLB : Hid ((Ix23.body l).length = LL + j) := hl5
            clear hl5
            go_wp2_with fail
            refine Calls.mono HS.out ?_
            rintro z w6 ⟨sa, rfl, hs, c6⟩
            have hown := HO5.out.new c6
            unfold ByO at hown
            rw [HLB.out] at hown
            have hsrc : From w6 sa 4 4 1 ((nums (crc4 (Ix23.body l))).map (Value.int .u8)) := by
              unfold ByO at hs
              rw [crc4_len] at hs
              exact own_from hs
            have hB6 : w0.heap.size ≤ w6.heap.size := (chg_then HC5.out c6).size
            have HC6 : Hid (Chg (fun _ => False) w0 w6) := chg_then HC5.out c6
            clear c6 hs HS
            go_wp2_with (at_builtin; refine wpList_append_moved rfl _ _ 22 rfl w0.heap.size 5 iu (.int .u8 0) 1 1 Tryd.underlying22 hiu hu0 hu1 hu2 rfl (by decide) _ (LL + j) ((nums (Ix23.body l)).map (Value.int .u8)) rfl sa 4 4 rfl ((nums (crc4 (Ix23.body l))).map (Value.int .u8)) ?h1 ?h2 ?h3 ?m1 ?m2 ?m3 ?_)
            case h1 => exact hown
            case h2 => exact hsrc
            case h3 => exact oneB _
            case m1 => unfold maxLen; omega
            case m2 => omega
            case m3 => exact hB6
            intro v7 w7 ho7 hg7 hm7
            have HC7 : Hid (Chg (fun _ => False) w0 w7) := HC6.out.grown hg7 (fun g e => .inr ((hown.lt g e).1))
            have HO7 : Hid (ByO w7 w0.heap.size v7 (Ix23.body l ++ crc4 (Ix23.body l))) := byO_app ho7
            clear ho7 hg7 hm7 hown hsrc hB6 HC6
            go_wp2
            go_ret2
            exact ⟨_, (by rw [HE.out]; rfl), (by rw [HE.out]; exact HO7.out), HC7.out⟩
end Go.Proofs.YtehfcfpbjenmjaaDoor
