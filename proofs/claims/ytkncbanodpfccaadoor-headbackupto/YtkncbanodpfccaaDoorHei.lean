/- What lies between a header's first byte and its zeros, as the program makes it; of no statement by itself. -/
import Derived.Test.YtkncbanodpfccaaDoorHeh
namespace Go.Proofs.YtkncbanodpfccaaDoor
open Go.RowKit
open St12
set_option linter.unusedVariables false
set_option linter.unusedSimpArgs false
namespace Hd21
open Cn20
theorem putAll_app : ∀ (a b : List Flt), (putAll a).2 = 0 → putAll (a ++ b) = if (putAll b).2 ≠ 0 then ([], (putAll b).2) else ((putAll a).1 ++ (putAll b).1, 0)
  | [], b, _ => by
    rw [List.nil_append]
    rcases putAll_two b with h | ⟨h1, h2⟩
    · rw [if_neg (by simpa using h)]
      exact Prod.ext (by simp [putAll]) h
    · rw [if_pos (by rw [h1]; decide)]
      exact Prod.ext h2 rfl
  | f :: r, b, h => by
    obtain ⟨h1, _, h3, h4⟩ := putAll_ok h
    have ih := putAll_app r b h3
    rw [List.cons_append, putAll_cons, if_neg (by simpa using h1), ih, h4]
    by_cases k : (putAll b).2 = 0
    · have k' : ¬ (putAll b).2 ≠ 0 := by simpa using k
      simp only [if_neg k']
      simp [List.append_assoc]
    · simp only [if_pos k]
theorem putAll_one (f : Flt) : putAll [f] = if (putF f).2 ≠ 0 then ([], (putF f).2) else ((putF f).1, 0) := by
  rw [putAll_cons]
  by_cases k : (putF f).2 = 0
  · have k' : ¬ (putF f).2 ≠ 0 := by simpa using k
    simp only [if_neg k']
    simp [putAll]
  · simp only [if_pos k]
theorem putAll_bad {a b : List Flt} {f : Flt} (h : (putAll a).2 = 0) (hf : (putF f).2 ≠ 0) : (putAll (a ++ f :: b)).2 = (putF f).2 := by
  rw [putAll_app a _ h, putAll_cons, if_pos hf, if_pos hf]
end Hd21
/-- What has been made behind k filters. -/
def inP (pk sz : Int) (fs : List Flt) (k : Nat) : List Nat := Hd21.flags pk sz fs.length :: (tB pk sz 2 ++ (Hd21.putAll (fs.take k)).1)
theorem inP_next {pk sz : Int} {fs : List Flt} {k : Nat} {f : Flt} (h : fs[k]? = some f) (h0 : (Hd21.putAll (fs.take k)).2 = 0) (hf : (Cn20.putF f).2 = 0) : inP pk sz fs (k + 1) = inP pk sz fs k ++ (Cn20.putF f).1 ∧ (Hd21.putAll (fs.take (k + 1))).2 = 0 := by
  have e : fs.take (k + 1) = fs.take k ++ [f] := by rw [List.take_add_one, h]; rfl
  have e2 := Hd21.putAll_app (fs.take k) [f] h0
  have hf' : ¬ (Cn20.putF f).2 ≠ 0 := by simpa using hf
  rw [Hd21.putAll_one, if_neg hf', if_neg (show ¬ ((0 : Int) ≠ 0) by decide)] at e2
  unfold inP
  rw [e, e2]
  simp
theorem inP_bad {fs : List Flt} {k : Nat} {f : Flt} (h : fs[k]? = some f) (h0 : (Hd21.putAll (fs.take k)).2 = 0) (hf : (Cn20.putF f).2 ≠ 0) : (Hd21.putAll fs).2 = (Cn20.putF f).2 := by
  obtain ⟨hl, e⟩ := List.getElem?_eq_some_iff.1 h
  have e2 : fs = fs.take k ++ f :: fs.drop (k + 1) := by rw [← e, ← List.drop_eq_getElem_cons hl, List.take_append_drop]
  rw [e2]
  rw [← e2]
  have := Hd21.putAll_bad (b := fs.drop (k + 1)) h0 hf
  rw [← e2] at this
  exact this
theorem inP_zero (pk sz : Int) (fs : List Flt) : inP pk sz fs 0 = Hd21.flags pk sz fs.length :: tB pk sz 2 ∧ (Hd21.putAll (fs.take 0)).2 = 0 := by simp [inP, Hd21.putAll]
theorem inP_end (pk sz by_ : Int) (fs : List Flt) : inP pk sz fs fs.length = Hd21.flags pk sz fs.length :: Hd21.room0 ⟨pk, sz, fs, by_⟩ := by
  simp [inP, Hd21.room0, tB]
theorem flags_tF (pk sz : Int) (n : Nat) : ((Hd21.flags pk sz n : Nat) : Int) = tF pk sz 2 + ((n - 1 : Nat) : Int) := by
  unfold Hd21.flags tF
  simp
  split <;> split <;> omega
set_option maxHeartbeats 16000000 in
set_option maxRecDepth 100000 in
theorem inner21_any (C : ChainSpec Vint.Tab) (pk sz by_ : Int) (fa : Option Addr) (fn fc : Nat) (l : List FlV) (w0 : World) (hT : Vint.Tab w0) (hp : pk = -1 ∨ 1 ≤ pk) (hs : -1 ≤ sz) (ip : I64 pk) (is : I64 sz) (h : FlL w0 fa l) (hl : l.length = fn) (h1 : 1 ≤ fn) (h4 : fn ≤ 4) (hx : ∀ (k : Nat) (x : FlV), l[k]? = some x → x.n ≤ 1048576) : Calls Tryd.prog 21 #[hdv pk sz (.slice fa fn fc) by_] w0 fun e w' => (((Hd21.putAll (l.map FlV.f)).2 ≠ 0 ∧ e = .returned (.tuple #[.slice none 0 0, .int .i64 (Hd21.putAll (l.map FlV.f)).2])) ∨ ((Hd21.putAll (l.map FlV.f)).2 = 0 ∧ ∃ ia L ic, e = .returned (.tuple #[.slice ia L ic, .int .i64 0]) ∧ ByO w' w0.heap.size (.slice ia L ic) (inP pk sz (l.map FlV.f) fn) ∧ (inP pk sz (l.map FlV.f) fn).length = L ∧ L ≤ 4194400)) ∧ Chg (fun _ => False) w0 w' := by
  obtain ⟨iu, hiu, hu0, hu1, hu2⟩ := info_parts info5u
  obtain ⟨fs, hfs⟩ : ∃ fs, l.map FlV.f = fs := ⟨_, rfl⟩
  rw [hfs]
  have hfl : fs.length = fn := by rw [← hfs, List.length_map, hl]
  have HFS : Hid (l.map FlV.f = fs ∧ fs.length = fn ∧ l.length = fn) := ⟨hfs, hfl, hl⟩
  have HT : Hid (Vint.Tab w0) := hT
  have HL : Hid (FlL w0 fa l ∧ ∀ (k : Nat) (x : FlV), l[k]? = some x → x.n ≤ 1048576) := ⟨h, hx⟩
  have cA := chg_one w0 (.cells #[.int .i64 pk, .int .i64 sz, .slice fa fn fc, .int .i64 by_] 24)
  have bA := heap_alloc_last w0 (.cells #[.int .i64 pk, .int .i64 sz, .slice fa fn fc, .int .i64 by_] 24)
  obtain ⟨x0, x1, x2, x3⟩ := cells4h bA
  have HTS : Hid _ := toldSizes_any pk sz by_ fa fn fc (w0.alloc (.cells #[.int .i64 pk, .int .i64 sz, .slice fa fn fc, .int .i64 by_] 24)) (hT.new cA) hp hs ip is
  have HA : Hid (Chg (fun _ => False) w0 (w0.alloc (.cells #[.int .i64 pk, .int .i64 sz, .slice fa fn fc, .int .i64 by_] 24)) ∧ (w0.alloc (.cells #[.int .i64 pk, .int .i64 sz, .slice fa fn fc, .int .i64 by_] 24)).heap[w0.heap.size]? = some (.cells #[.int .i64 pk, .int .i64 sz, .slice fa fn fc, .int .i64 by_] 24 (0, 0)) ∧ (w0.alloc (.cells #[.int .i64 pk, .int .i64 sz, .slice fa fn fc, .int .i64 by_] 24)).heap.size = w0.heap.size + 1) := ⟨cA, bA, World.size_alloc _ _⟩
  obtain ⟨g0, g1, _, _⟩ := tF_bd pk sz 2
  have hfg := flags_tF pk sz fn
  have hlb := tB_len pk sz 2
  obtain ⟨F, hF⟩ : ∃ F, tF pk sz 2 = F := ⟨_, rfl⟩
  obtain ⟨B2, hB2⟩ : ∃ B2, tB pk sz 2 = B2 := ⟨_, rfl⟩
  obtain ⟨L2, hL2⟩ : ∃ L2, B2.length = L2 := ⟨_, rfl⟩
  rw [hB2] at hlb HTS
  rw [hL2] at hlb HTS
  rw [hF] at g0 g1 hfg HTS
  have HB2 : Hid (tB pk sz 2 = B2 ∧ B2.length = L2) := ⟨hB2, hL2⟩
  obtain ⟨f0, hf0⟩ : ∃ f0, Hd21.flags pk sz fn = f0 := ⟨_, rfl⟩
  rw [hf0] at hfg
  have HF0 : Hid (Hd21.flags pk sz fn = f0) := hf0
  have i1 : F + ((fn : Int) - 1) = (f0 : Int) := by omega
  have hf195 : (f0 : Int) ≤ 195 := by omega
  have hni : (fn : Int) ≤ 4 := by omega
  have hn1 : (1 : Int) ≤ (fn : Int) := by omega
  have HN4 : Hid (1 ≤ fn ∧ fn ≤ 4) := ⟨h1, h4⟩
  have hL2i : (L2 : Int) ≤ 18 := by omega
  have hw8 : IntKind.u8.wrap ((fn : Int) - 1) = (fn : Int) - 1 := by simp [IntKind.wrap, IntKind.signed, IntKind.bits]; omega
  unfold hdv at HTS ⊢
  clear hT hp hs ip is h hl hx hfs hfl cA bA hfg hf0 hF hB2 hL2 h1 h4
  go_enter Tryd.func21, Tryd.ntmps21
  go_wp2_with fail
  refine Calls.mono HTS.out ?_
  rintro z w2 ⟨ba, bc, rfl, hby, c2⟩
  have hb2 := blk_keep HA.out.2.1 c2 (fun f => f)
  obtain ⟨x0, x1, x2, x3⟩ := cells4h hb2
  have c3 := chg_one w2 (.cells #[.int .u8 (f0 : Int)] 5)
  have hown := own_lit1 w2 f0
  have hrow := (byO_row hby).1
  have hsrc := (Bk.row8_chg hrow c3).src
  have hone := oneB B2
  have hB4 : w0.heap.size + 1 ≤ (w2.alloc (.cells #[.int .u8 (f0 : Int)] 5)).heap.size := by
    have := HA.out.2.2
    have := c2.size
    rw [World.size_alloc]
    omega
  have hbs : w0.heap.size + 1 ≤ w2.heap.size := by
    have := HA.out.2.2
    have := c2.size
    omega
  have hb3 := blk_keep hb2 c3 (fun f => f)
  obtain ⟨q0, q1, q2, q3⟩ := cells4h hb3
  have HC3 : Hid (Chg (fun _ => False) w0 (w2.alloc (.cells #[.int .u8 (f0 : Int)] 5)) ∧ (w2.alloc (.cells #[.int .u8 (f0 : Int)] 5)).heap[w0.heap.size]? = some (.cells #[.int .i64 pk, .int .i64 sz, .slice fa fn fc, .int .i64 by_] 24 (0, 0))) := ⟨chg_then (chg_then HA.out.1 c2) c3, hb3⟩
  unfold ByO at hown
  have hown' := owns_base hown hbs
  clear hby c2 hb2 c3 hrow hb3 HA HTS hown hbs
  go_wp2_with (at_builtin; refine wpList_append_moved rfl _ _ 25 rfl (w0.heap.size + 1) 5 iu (.int .u8 0) 1 1 Tryd.underlying25 hiu hu0 hu1 hu2 rfl (by decide) _ 1 ((nums [f0]).map (Value.int .u8)) rfl ba L2 bc rfl ((nums B2).map (Value.int .u8)) ?h1 ?h2 ?h3 ?m1 ?m2 ?m3 ?_)
  case h1 => exact hown'
  case h2 => exact hsrc
  case h3 => exact hone
  case m1 => unfold maxLen; omega
  case m2 => omega
  case m3 => exact hB4
  intro v4 w4 ho4 hg4 hm4
  have c4 : Chg (fun z => w0.heap.size + 1 ≤ z) _ w4 := (Chg.refl _ _).grown hg4 (fun j e => .inl (hown'.lt j e).1)
  have hby := byO_app (a := [f0]) (b := B2) ho4
  obtain ⟨a4, d4, rfl⟩ := form1 ho4
  obtain ⟨x0, x1, x2, x3⟩ := cells4h (blk_keep HC3.out.2 c4 (by omega))
  have HJ : Hid (ByO w4 (w0.heap.size + 1) (.slice a4 (1 + L2) d4) (inP pk sz fs 0) ∧ Chg (fun _ => False) w0 w4 ∧ w0.heap.size + 1 ≤ w4.heap.size) := by
    refine ⟨?_, HC3.out.1.trans c4 (fun z e => .inr (by omega)), Nat.le_trans hB4 c4.size⟩
    rw [(inP_zero pk sz fs).1, HB2.out.1, HFS.out.2.1, HF0.out]
    exact hby
  clear hown' hsrc hone hB4 ho4 hg4 hm4 c4 hby HC3 q0 q1 q2 q3
  go_wp2_with fail
  obtain ⟨N, hN⟩ : ∃ N, w0.heap.size = N := ⟨_, rfl⟩
  rw [hN] at HJ
  have HN : Hid (w0.heap.size = N) := hN
  have HL0 : Hid (1 + L2 = (inP pk sz fs 0).length ∧ 1 + L2 ≤ 19) := by
    have h1 := HB2.out
    refine ⟨?_, by omega⟩
    rw [(inP_zero pk sz fs).1, h1.1, List.length_cons, h1.2]
    omega
  clear hN x0 x1 x2 x3
  go_loopw [7, 34] (fun bv iv wr => ∃ (k L : Nat) (ba : Option Addr) (bc : Nat), k ≤ fn ∧ iv = .int .i64 (k : Int) ∧ bv = .slice ba L bc ∧ L ≤ 19 + k * 1048594 ∧ Hid ((inP pk sz fs k).length = L ∧ (Hd21.putAll (fs.take k)).2 = 0 ∧ ByO wr (N + 1) (.slice ba L bc) (inP pk sz fs k) ∧ Chg (fun _ => False) w0 wr ∧ N + 1 ≤ wr.heap.size)) (fun _ iv _ => fn - (intOf iv).toNat)
  case atStart => exact ⟨0, 1 + L2, a4, d4, Nat.zero_le _, rfl, rfl, by have := HL0.out.2; omega, HL0.out.1.symm, (inP_zero pk sz fs).2, HJ.out.1, HJ.out.2.1, HJ.out.2.2⟩
  case round =>
    clear HJ
    obtain ⟨k, L, ba, bc, hk, rfl, rfl, hLk, HI⟩ := hrel
    have hki : (k : Int) ≤ (fn : Int) := by omega
    have hLi : (L : Int) ≤ 4194395 := by omega
    by_cases hlt : k < fn
    · have d1 : decide ((k : Int) < (fn : Int)) = true := decide_eq_true (by omega)
      have d1' : decide (k < fn) = true := decide_eq_true hlt
      have hk2i : (k : Int) < (fn : Int) := by omega
      obtain ⟨q, b, off, hq, hok, rfl, y0, y1⟩ := (HL.out.1.new HI.out.2.2.2.1).at (k := k) (by have := HFS.out.2.2; omega)
      have hqn := HL.out.2 k q hq
      have hfq : fs[k]? = some q.f := by rw [← HFS.out.1, List.getElem?_map, hq]; rfl
      obtain ⟨id, qa, qn, qc, qs⟩ := q
      simp only at y0 y1 hqn
      have hpc := Hd21.putF_cases ⟨id, qs⟩
      have hlen := hok.len
      simp only at hlen
      have HBAD : Hid ((Cn20.putF ⟨id, qs⟩).2 ≠ 0 → (Hd21.putAll fs).2 = (Cn20.putF ⟨id, qs⟩).2) := fun e => inP_bad hfq HI.out.2.1 e
      have HNX : Hid ((Cn20.putF ⟨id, qs⟩).2 = 0 → inP pk sz fs (k + 1) = inP pk sz fs k ++ (Cn20.putF ⟨id, qs⟩).1 ∧ (Hd21.putAll (fs.take (k + 1))).2 = 0) := fun e => inP_next hfq HI.out.2.1 e
      have HPL : Hid ((Cn20.putF ⟨id, qs⟩).1.length ≤ 1048594) := by
        show _ ≤ _
        rcases hpc with ⟨_, h2⟩ | ⟨_, _, h3⟩
        · rw [Cn20.put_ok h2]
          have := vbn_le id
          have := vbn_le qs.length
          simp only [List.length_append]
          omega
        · rw [h3]; simp
      have HLT : Hid (k < fn ∧ L ≤ 19 + k * 1048594) := ⟨hlt, hLk⟩
      have HOK : Hid ((⟨id, qa, qn, qc, qs⟩ : FlV).ok wr) := hok
      obtain ⟨y, hy⟩ : ∃ y : Int, (id : Int) = y := ⟨_, rfl⟩
      have HY : Hid ((id : Int) = y) := hy
      rw [hy] at y0
      obtain ⟨PF, hPF⟩ : ∃ PF, Cn20.putF ⟨id, qs⟩ = PF := ⟨_, rfl⟩
      rw [hPF] at hpc HBAD HNX HPL
      have HPF : Hid (Cn20.putF ⟨id, qs⟩ = PF) := hPF
      clear hlt hLk hok hq hqn hfq hlen hPF hy
      have cK := chg_one wr (.cells #[.int .u64 y, .slice qa qn qc] 54)
      have bK := heap_alloc_last wr (.cells #[.int .u64 y, .slice qa qn qc] 54)
      obtain ⟨v0, v1, _, _⟩ := cells2f bK
      have HX : Hid _ := C.put id qa qn qc qs (wr.alloc (.cells #[.int .u64 y, .slice qa qn qc] 54)) ((HT.out.new HI.out.2.2.2.1).new cK) (HOK.out.new cK)
      rw [HPF.out, HY.out] at HX
      have HI2 : Hid (ByO (wr.alloc (.cells #[.int .u64 y, .slice qa qn qc] 54)) (N + 1) (.slice ba L bc) (inP pk sz fs k) ∧ Chg (fun _ => False) w0 (wr.alloc (.cells #[.int .u64 y, .slice qa qn qc] 54)) ∧ N + 1 ≤ (wr.alloc (.cells #[.int .u64 y, .slice qa qn qc] 54)).heap.size ∧ (inP pk sz fs k).length = L) := ⟨ByO.new HI.out.2.2.1 cK, chg_then HI.out.2.2.2.1 cK, Nat.le_trans HI.out.2.2.2.2 cK.size, HI.out.1⟩
      clear cK bK HI HOK
      go_upto_region 8 with fail
      generalize wr.alloc (.cells #[.int .u64 y, .slice qa qn qc] 54) = w5 at *
      go_wp2_with fail
      refine Calls.mono HX.out ?_
      rintro z w6 ⟨ov, rfl, hov, c6⟩
      obtain ⟨oa, oc, rfl⟩ := byO_form hov
      by_cases he : PF.2 = 0
      rotate_left
      · have q1 : (PF.2 != 0) = true := by simpa using he
        have q2 : (PF.2 == 0) = false := by simpa using he
        have HF : Hid ((Hd21.putAll fs).2 = PF.2 ∧ PF.2 ≠ 0 ∧ Chg (fun _ => False) w0 w6) := ⟨HBAD.out he, he, chg_then HI2.out.2.1 c6⟩
        clear he hpc hov c6 HX HI2 HBAD HNX v0 v1 y0 y1
        go_wp2
        go_ret2
        exact ⟨.inl ⟨by rw [HF.out.1]; exact HF.out.2.1, by rw [HF.out.1]; rfl⟩, HF.out.2.2⟩
      · have hnx := HNX.out he
        have hown := ByO.new HI2.out.1 c6
        unfold ByO at hown
        rw [HI2.out.2.2.2] at hown
        obtain ⟨V, hVV⟩ : ∃ V, PF.1.length = V := ⟨_, rfl⟩
        have hrow := (byO_row hov).1
        rw [hVV] at hrow ⊢
        have hsrc := hrow.src
        have hone := oneB PF.1
        have hB6 : N + 1 ≤ w6.heap.size := Nat.le_trans HI2.out.2.2.1 c6.size
        have HC6 : Hid (Chg (fun _ => False) w0 w6) := chg_then HI2.out.2.1 c6
        have HLO : Hid (∀ j, (Value.slice ba L bc).ownBlock = some j → N + 1 ≤ j) := fun j e => (hown.lt j e).1
        have HP1 : Hid (inP pk sz fs (k + 1) = inP pk sz fs k ++ PF.1 ∧ (Hd21.putAll (fs.take (k + 1))).2 = 0 ∧ (inP pk sz fs k).length = L ∧ PF.1.length = V) := ⟨hnx.1, hnx.2, HI2.out.2.2.2, hVV⟩
        have hv2 : (V : Int) ≤ 1048594 := by have := HPL.out; rw [hVV] at this; omega
        rw [he]
        clear he hpc hov c6 HX HI2 HBAD HNX v0 v1 y0 y1 hnx hrow hVV
        go_wp2_with (at_builtin; refine wpList_append_moved rfl _ _ 25 rfl (N + 1) 5 iu (.int .u8 0) 1 1 Tryd.underlying25 hiu hu0 hu1 hu2 rfl (by decide) _ L ((nums (inP pk sz fs k)).map (Value.int .u8)) rfl oa V oc rfl ((nums PF.1).map (Value.int .u8)) ?h1 ?h2 ?h3 ?m1 ?m2 ?m3 ?_)
        case h1 => exact hown
        case h2 => exact hsrc
        case h3 => exact hone
        case m1 => unfold maxLen; omega
        case m2 => omega
        case m3 => exact hB6
        intro v7 w7 ho7 hg7 hm7
        have c7 : Chg (fun z => N + 1 ≤ z) w6 w7 := (Chg.refl _ _).grown hg7 (fun j e => .inl (HLO.out j e))
        have hby := byO_app (a := inP pk sz fs k) (b := PF.1) ho7
        obtain ⟨a7, d7, rfl⟩ := form1 ho7
        have HJ : Hid (ByO w7 (N + 1) (.slice a7 (L + V) d7) (inP pk sz fs (k + 1)) ∧ Chg (fun _ => False) w0 w7 ∧ N + 1 ≤ w7.heap.size) := ⟨by rw [HP1.out.1]; exact hby, HC6.out.trans c7 (fun z e => .inr (by have := HN.out; omega)), Nat.le_trans hB6 c7.size⟩
        clear hown hsrc hone hB6 ho7 hg7 hm7 c7 hby HC6 HLO
        go_wp2
        go_roundw
        case rel =>
          exact ⟨k + 1, L + V, a7, d7, HLT.out.1, by go_num, rfl, by have := HLT.out.2; omega, by rw [HP1.out.1, List.length_append, HP1.out.2.2.1, HP1.out.2.2.2], HP1.out.2.1, HJ.out.1, HJ.out.2.1, HJ.out.2.2⟩
        case measure => simp [intOf]; have := HLT.out.1; omega
    · have d1 : decide ((k : Int) < (fn : Int)) = false := decide_eq_false (by omega)
      have d1' : decide (k < fn) = false := decide_eq_false hlt
      have HK : Hid (k = fn ∧ L ≤ 4194400) := by
        show _ ∧ _
        omega
      clear hlt hLk
      go_wp2
      go_ret2
      have hk9 := HK.out.1
      have h9 := HI.out
      rw [hk9] at h9
      have h8 := h9.2.1
      rw [← HFS.out.2.1, List.take_length] at h8
      exact ⟨.inr ⟨h8, ba, L, bc, rfl, owns_base h9.2.2.1 (show w0.heap.size ≤ N + 1 by rw [HN.out]; omega), h9.1, HK.out.2⟩, h9.2.2.2.1⟩
end Go.Proofs.YtkncbanodpfccaaDoor
