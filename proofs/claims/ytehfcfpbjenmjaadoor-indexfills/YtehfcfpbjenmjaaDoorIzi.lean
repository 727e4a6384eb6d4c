/- The landed index's fields: the records; of no statement by itself. -/
import Derived.Test.YtehfcfpbjenmjaaDoorIzh
namespace Go.Proofs.YtehfcfpbjenmjaaDoor
open Go.RowKit
set_option linter.unusedVariables false
set_option linter.unusedSimpArgs false
theorem cnt_pos (v : Nat) : 1 ≤ Ix23.cnt (vbn v) := by
  have hl := vbn_len v
  have h9 := vbn_le v
  have hx : (vbn v)[Vint.sz (v : Int) - 1]? = some (Vint.dg (v : Int) (Vint.sz (v : Int) - 1)).toNat := by
    unfold vbn Vint.vb Vint.putl
    rw [List.getElem?_map, List.getElem?_map, List.getElem?_range (by omega)]
    simp only [Option.map_some, Option.some.injEq]
    rw [if_neg (by omega)]
  have hb := Vint.dg_bd (v : Int) (Vint.sz (v : Int) - 1)
  have hm := List.mem_of_getElem? hx
  unfold Ix23.cnt
  exact List.length_pos_of_mem (List.mem_filter.2 ⟨hm, by simp; omega⟩)
theorem take_more {bs : List Nat} (hd : Rc.Dig bs) {a v k : Nat} (h : getN (bs.drop a) = (v, k, 0)) : bs.take (a + k) = bs.take a ++ vbn v := by
  have hb := getN_back (dig_drop hd a) (by rw [h])
  rw [h] at hb
  rw [List.take_add, hb.1]
theorem cnt_more {bs : List Nat} (hd : Rc.Dig bs) {a v k : Nat} (h : getN (bs.drop a) = (v, k, 0)) : Ix23.cnt (bs.take a) + 1 ≤ Ix23.cnt (bs.take (a + k)) := by
  rw [take_more hd h, Ix23.cnt_app]
  have := cnt_pos v
  omega
theorem cnt_take (bs : List Nat) (a : Nat) : Ix23.cnt (bs.take a) ≤ Ix23.cnt bs := by
  have h := Ix23.cnt_app (bs.take a) (bs.drop a)
  rw [List.take_append_drop] at h
  omega
theorem fitU_no {x n : Int} : fitU x n = false ↔ (n < 5 ∨ 9223372036854775804 < n ∨ 9223372036854775807 < x + Ix23.pad n) := by
  unfold fitU
  rw [← Bool.not_eq_true, Bool.and_eq_true, Bool.and_eq_true]
  simp only [decide_eq_true_eq]
  omega
theorem fitP_no {y n : Int} (h : 0 ≤ n) : fitP y n = false ↔ 9223372036854775807 < y + n := by
  unfold fitP
  rw [← Bool.not_eq_true, Bool.and_eq_true]
  simp only [decide_eq_true_eq]
  omega
section
variable {m at_ : Nat} {b p : Int} {acc : List Rec} {r : List Nat}
theorem rx_1 (h : (getN r).2.2 ≠ 0) : Ix23.getRs (m + 1) b p at_ acc r = ([], 0, (getN r).2.2) := by rw [Ix23.getRs, if_pos h]
theorem rx_2 (h : (getN r).2.2 = 0) (hf : fitU b (getN r).1 = false) : Ix23.getRs (m + 1) b p at_ acc r = ([], 0, 2) := by
  rw [Ix23.getRs, if_neg (by simpa using h), if_pos (fitU_no.1 hf)]
theorem rx_3 (h : (getN r).2.2 = 0) (hf : fitU b (getN r).1 = true) (h2 : (getN (r.drop (getN r).2.1)).2.2 ≠ 0) : Ix23.getRs (m + 1) b p at_ acc r = ([], 0, (getN (r.drop (getN r).2.1)).2.2) := by
  rw [Ix23.getRs, if_neg (by simpa using h), if_neg (fun f => by rw [fitU_no.2 f] at hf; cases hf), if_pos h2]
theorem rx_4 (h : (getN r).2.2 = 0) (hf : fitU b (getN r).1 = true) (h2 : (getN (r.drop (getN r).2.1)).2.2 = 0) (hg : fitP p (getN (r.drop (getN r).2.1)).1 = false) : Ix23.getRs (m + 1) b p at_ acc r = ([], 0, 2) := by
  rw [Ix23.getRs, if_neg (by simpa using h), if_neg (fun f => by rw [fitU_no.2 f] at hf; cases hf), if_neg (by simpa using h2), if_pos ((fitP_no (by omega)).1 hg)]
theorem rx_5 (h : (getN r).2.2 = 0) (hf : fitU b (getN r).1 = true) (h2 : (getN (r.drop (getN r).2.1)).2.2 = 0) (hg : fitP p (getN (r.drop (getN r).2.1)).1 = true) : Ix23.getRs (m + 1) b p at_ acc r = Ix23.getRs m (b + Ix23.pad (getN r).1) (p + (getN (r.drop (getN r).2.1)).1) (at_ + ((getN r).2.1 + (getN (r.drop (getN r).2.1)).2.1)) (acc ++ [⟨(getN r).1, (getN (r.drop (getN r).2.1)).1⟩]) (r.drop ((getN r).2.1 + (getN (r.drop (getN r).2.1)).2.1)) := by
  rw [Ix23.getRs, if_neg (by simpa using h), if_neg (fun f => by rw [fitU_no.2 f] at hf; cases hf), if_neg (by simpa using h2), if_neg (fun f => by rw [(fitP_no (by omega)).2 f] at hg; cases hg)]
end
/-- What the records' fault is: the number of them, then them. -/
noncomputable def recE (bs : List Nat) : Int := if (getN (bs.drop 1)).2.2 ≠ 0 then (getN (bs.drop 1)).2.2 else (Ix23.getRs (getN (bs.drop 1)).1 0 0 (1 + (getN (bs.drop 1)).2.1) [] (bs.drop (1 + (getN (bs.drop 1)).2.1))).2.2
/-- The records that are read, and where they end. -/
noncomputable def recR (bs : List Nat) : List Rec × Nat := ((Ix23.getRs (getN (bs.drop 1)).1 0 0 (1 + (getN (bs.drop 1)).2.1) [] (bs.drop (1 + (getN (bs.drop 1)).2.1))).1, (Ix23.getRs (getN (bs.drop 1)).1 0 0 (1 + (getN (bs.drop 1)).2.1) [] (bs.drop (1 + (getN (bs.drop 1)).2.1))).2.1)
theorem own_cellsT {w : World} {B size : Nat} {e : TypeId} {v : Value} {n g : Nat} {xs : List Value} (h : w.ownsRow B e size v n xs) (hg : v.ownBlock = some g) : ∃ cs, w.heap[g]? = some (.cells cs e (0, 0)) := by
  rcases h.2 with ⟨rfl, rfl⟩ | ⟨g2, cap, cur, rfl, hb, hgg, rest⟩
  · simp [Value.ownBlock] at hg
  · simp [Value.ownBlock] at hg
    subst hg
    exact ⟨_, hgg⟩
theorem own_neT {w : World} {B size : Nat} {e t : TypeId} {v : Value} {n g : Nat} {xs : List Value} {cs : Array Value} (h : w.ownsRow B e size v n xs) (hb : w.heap[g]? = some (.cells cs t (0, 0))) (ht : t ≠ e) : v.ownBlock ≠ some g := fun hg => by
  obtain ⟨c2, h2⟩ := own_cellsT h hg
  rw [hb] at h2
  simp only [Option.some.injEq, Obj.cells.injEq] at h2
  exact ht h2.2.1
set_option maxHeartbeats 16000000 in
set_option maxRecDepth 100000 in
theorem records_any (W0 : World) (f : Nat) (ad : Option Addr) (n c : Nat) (bs : List Nat) (w0 : World) (hB : Row8 W0 ad n c (nums bs)) (hd : Rc.Dig bs) (hc : n ≤ c) (hn : n ≤ 140737488355328) (h : Fd W0 f ad n c 1 w0) (hm : (getN (bs.drop 1)).1 ≤ 8796093022208 ∨ Ix23.cnt bs ≤ 17592186044416) : Calls Tryd.prog 28 #[.pointer (some ⟨f, 0, none⟩)] w0 fun e w' => ((recE bs ≠ 0 ∧ e = .panicked (gaveX (recE bs))) ∨ (recE bs = 0 ∧ ∃ lv, e = .returned lv ∧ RcO w' W0.heap.size lv (recR bs).1 ∧ Fd W0 f ad n c (recR bs).2 w')) ∧ Chg (fun z => z = f) w0 w' := by
  obtain ⟨iu, hiu, hu0, hu1, hu2⟩ := info_parts infoRc
  have hmf : ∀ (fn : Fn) (first cap : Array Value) (w : World), (Instr.makeFunc fn first cap).run Tryd.prog w = .ok (.func fn first cap) w := fun _ _ _ _ => rfl
  have HB : Hid (Row8 W0 ad n c (nums bs)) := hB
  have HD : Hid (Rc.Dig bs) := hd
  have hbl : bs.length = n := by have h9 := hB.1; rw [nums_len] at h9; exact h9
  have HN : Hid (n ≤ c ∧ n ≤ 140737488355328 ∧ bs.length = n) := ⟨hc, hn, hbl⟩
  have hf1 := h.lo
  have hfl := lt_of_blk h.fld
  have hwl := h.ch.size
  obtain ⟨s, hs⟩ : ∃ s, w0.heap.size = s := ⟨_, rfl⟩
  have cA := chg_one w0 (.cells #[.int .i64 0, .int .i64 0] 85)
  have hA := heap_alloc_last w0 (.cells #[.int .i64 0, .int .i64 0] 85)
  rw [hs] at hA
  have HS0 : Hid (Sms (w0.alloc (.cells #[.int .i64 0, .int .i64 0] 85)) s 0 0 ∧ Fd W0 f ad n c 1 (w0.alloc (.cells #[.int .i64 0, .int .i64 0] 85)) ∧ Chg (fun _ => False) w0 (w0.alloc (.cells #[.int .i64 0, .int .i64 0] 85))) := ⟨hA, h.go cA (fun _ f => f.elim), cA⟩
  have HSL : Hid (s ≠ f ∧ W0.heap.size ≤ s ∧ w0.heap.size = s ∧ f < s ∧ W0.heap.size ≤ f) := ⟨by omega, by omega, hs, by omega, hf1⟩
  have HNU := number_any f ad n c 1 bs (w0.alloc (.cells #[.int .i64 0, .int .i64 0] 85)) HS0.out.2.1.fld h.ha (Bk.row8_chg hB HS0.out.2.1.ch) hd hc hn
  have hbk := fun e => (getN_back (dig_drop hd 1) e).2
  have HG : Hid (getN (bs.drop 1) = ((getN (bs.drop 1)).1, (getN (bs.drop 1)).2.1, (getN (bs.drop 1)).2.2)) := rfl
  have HRE : Hid (recE bs = if (getN (bs.drop 1)).2.2 ≠ 0 then (getN (bs.drop 1)).2.2 else (Ix23.getRs (getN (bs.drop 1)).1 0 0 (1 + (getN (bs.drop 1)).2.1) [] (bs.drop (1 + (getN (bs.drop 1)).2.1))).2.2) := rfl
  have HRR : Hid (recR bs = ((Ix23.getRs (getN (bs.drop 1)).1 0 0 (1 + (getN (bs.drop 1)).2.1) [] (bs.drop (1 + (getN (bs.drop 1)).2.1))).1, (Ix23.getRs (getN (bs.drop 1)).1 0 0 (1 + (getN (bs.drop 1)).2.1) [] (bs.drop (1 + (getN (bs.drop 1)).2.1))).2.1)) := rfl
  have hpos := getN_pos (bs.drop 1)
  rw [List.length_drop, hbl] at hpos
  obtain ⟨mm, hmm⟩ : ∃ x, (getN (bs.drop 1)).1 = x := ⟨_, rfl⟩
  obtain ⟨m1, hm1⟩ : ∃ x, (getN (bs.drop 1)).2.1 = x := ⟨_, rfl⟩
  obtain ⟨me, hme⟩ : ∃ x, (getN (bs.drop 1)).2.2 = x := ⟨_, rfl⟩
  rw [hmm, hm1, hme] at HNU HG HRE
  rw [hmm, hm1] at HRR
  rw [hmm] at hm hbk
  rw [hme] at hbk
  rw [hm1, hme] at hpos
  have HM : Hid (mm ≤ 8796093022208 ∨ Ix23.cnt bs ≤ 17592186044416) := hm
  have HNU : Hid _ := HNU
  have HBK : Hid (me = 0 → mm ≤ 9223372036854775807) := hbk
  have HPO : Hid _ := hpos
  have hha := h.ha
  clear hB hd hc hn h hm hbk hmm hm1 hme hpos hA cA hbl hf1 hfl hwl
  go_enter Tryd.func28, Tryd.ntmps28
  go_upto_region 3 with fail
  try rw [hs]
  generalize w0.alloc (.cells #[.int .i64 0, .int .i64 0] 85) = w1 at *
  clear hs
  go_wp2_with fail
  refine Calls.mono HNU.out ?_
  rintro z w2 ⟨⟨he, rfl⟩ | ⟨he, rfl, h2⟩, c2⟩
  · have hE : recE bs = me := by rw [HRE.out, if_pos he]
    exact ⟨rfl, .inl ⟨by rw [hE]; exact he, by rw [hE]⟩, (HS0.out.2.2.mono (fun _ f => f.elim)).trans c2 (fun z e => .inl e)⟩
  · subst he
    have hme2 := HBK.out rfl
    have hmi : (mm : Int) ≤ 9223372036854775807 := by omega
    have HR0 : Hid (recE bs = (Ix23.getRs mm 0 0 (1 + m1) [] (bs.drop (1 + m1))).2.2) := by show _ = _; rw [HRE.out, if_neg (by simp)]
    have HA1 : Hid (1 + m1 ≤ n) := by have := HPO.out; show _ ≤ _; omega
    have HF2 : Hid (Fd W0 f ad n c (1 + m1) w2) := HS0.out.2.1.on h2 c2 (fun z e => by have := HSL.out; omega) HA1.out
    have HS2 : Hid (Sms w2 s 0 0) := HS0.out.1.keep c2 (fun e => HSL.out.1 e)
    have HC2 : Hid (Chg (fun z => z = f) w0 w2) := (HS0.out.2.2.mono (fun _ f => f.elim)).trans c2 (fun z e => .inl e)
    have HCN : Hid (1 ≤ Ix23.cnt (bs.take (1 + m1))) := by
      have := cnt_more HD.out HG.out
      show _ ≤ _
      omega
    clear hme2 h2 c2 HNU HS0 HRE HBK HPO
    go_wp2_with fail
    go_loopw [3, 9] (fun v i wr => ∃ (k a : Nat) (b p : Int) (acc : List Rec), k ≤ mm ∧ i = .int .i64 (k : Int) ∧ Hid (RcO wr s v acc) ∧ Hid (acc.length = k) ∧ Hid (Sms wr s b p) ∧ Hid (Fd W0 f ad n c a wr) ∧ Hid (Ix23.getRs mm 0 0 (1 + m1) [] (bs.drop (1 + m1)) = Ix23.getRs (mm - k) b p a acc (bs.drop a)) ∧ Hid (2 * k + 1 ≤ Ix23.cnt (bs.take a)) ∧ Hid (0 ≤ b ∧ b ≤ 9223372036854775807 ∧ 0 ≤ p ∧ p ≤ 9223372036854775807) ∧ Hid (Chg (fun z => z = f) w0 wr)) (fun _ i _ => mm - (intOf i).toNat)
    case atStart => exact ⟨0, 1 + m1, 0, 0, [], by omega, rfl, World.ownsRow_nil _ _ _ _, rfl, HS2, HF2, by show _ = _; rw [Nat.sub_zero], HCN, by show _ ∧ _; omega, HC2⟩
    case round =>
      clear HS2 HF2 HC2 HCN
      obtain ⟨k, a, b, p, acc, hk, rfl, HO, HAL, HS, HF, HR, HCT, HBP, HC⟩ := hrel
      have hki : (k : Int) ≤ (mm : Int) := by omega
      by_cases hlt : k < mm
      · have d1 : decide ((k : Int) < (mm : Int)) = true := decide_eq_true (by omega)
        have d1' : decide (k < mm) = true := decide_eq_true hlt
        obtain ⟨va, vc, rfl, hvc⟩ := formI HO.out
        have HK : Hid (k < mm) := hlt
        obtain ⟨md, hmd⟩ : ∃ x, mm - k = x + 1 := ⟨mm - k - 1, by omega⟩
        have HMD : Hid (mm - k = md + 1) := hmd
        rw [hmd] at HR
        have HU : Hid _ := rightU_any W0 f s ad n c a bs b p wr HB.out HD.out HN.out.1 HN.out.2.1 HF.out HS.out HSL.out.1 HBP.out.1 HBP.out.2.1
        have hpU := getN_pos (bs.drop a)
        have hbU := fun e => (getN_back (dig_drop HD.out a) e).2
        rw [List.length_drop, HN.out.2.2] at hpU
        have HGA : Hid (getN (bs.drop a) = ((getN (bs.drop a)).1, (getN (bs.drop a)).2.1, (getN (bs.drop a)).2.2)) := rfl
        have r1 := @rx_1 md a b p acc (bs.drop a)
        have r2 := @rx_2 md a b p acc (bs.drop a)
        have r3 := @rx_3 md a b p acc (bs.drop a)
        have r4 := @rx_4 md a b p acc (bs.drop a)
        have r5 := @rx_5 md a b p acc (bs.drop a)
        rw [List.drop_drop] at r3 r4 r5
        rw [List.drop_drop] at r5
        obtain ⟨U, hU⟩ : ∃ x, (getN (bs.drop a)).1 = x := ⟨_, rfl⟩
        obtain ⟨nU, hnU⟩ : ∃ x, (getN (bs.drop a)).2.1 = x := ⟨_, rfl⟩
        obtain ⟨eU, heU⟩ : ∃ x, (getN (bs.drop a)).2.2 = x := ⟨_, rfl⟩
        rw [hU, hnU, heU] at HU HGA
        rw [heU] at r1 r2 r3 r4 r5
        rw [hU] at r2 r3 r4 r5
        rw [hnU] at r3 r4 r5
        rw [hU, heU] at hbU
        rw [hnU, heU] at hpU
        have H1 : Hid _ := r1
        have H2 : Hid _ := r2
        have H3 : Hid _ := r3
        have H4 : Hid _ := r4
        have H5 : Hid _ := r5
        have HBU : Hid (eU = 0 → U ≤ 9223372036854775807) := hbU
        have HPU : Hid _ := hpU
        clear r1 r2 r3 r4 r5 hbU hpU hU hnU heU hmd hlt
        go_wp2_with fail
        refine Calls.mono HU.out ?_
        rintro z w3 ⟨⟨he, rfl⟩ | ⟨he, hfit, rfl⟩ | ⟨he, hfit, rfl, hf3, hs3⟩, c3⟩
        · have hE : recE bs = eU := by rw [HR0.out, HR.out, H1.out he]
          exact ⟨rfl, .inl ⟨by rw [hE]; exact he, by rw [hE]⟩, HC.out.trans c3 (fun z e => by have := HSL.out; omega)⟩
        · have hE : recE bs = 2 := by rw [HR0.out, HR.out, H2.out he hfit]
          exact ⟨rfl, .inl ⟨by rw [hE]; decide, by rw [hE]⟩, HC.out.trans c3 (fun z e => by have := HSL.out; omega)⟩
        subst he
        have hU9 := HBU.out rfl
        have HA3 : Hid (a + nU ≤ n) := by have h1 := HPU.out; have h2 := HF.out.ha; show _ ≤ _; omega
        have HF3 : Hid (Fd W0 f ad n c (a + nU) w3) := HF.out.on hf3 c3 (fun z e => by have := HSL.out; omega) HA3.out
        have HS3 : Hid (Sms w3 s (b + Ix23.pad (U : Int)) p) := hs3
        have HO3 : Hid (RcO w3 s (.slice va acc.length vc) acc) := owns_keepI HO.out c3 (fun g e e2 => by
          rcases e2 with e2 | e2
          · subst e2
            exact own_neT HO.out HF.out.fld (by decide) e
          · subst e2
            exact own_neT HO.out HS.out (by decide) e)
        have HC3 : Hid (Chg (fun z => z = f) w0 w3) := HC.out.trans c3 (fun z e => by have := HSL.out; omega)
        have HFU : Hid (fitU b (U : Int) = true) := hfit
        have HBP3 : Hid (0 ≤ b + Ix23.pad (U : Int) ∧ b + Ix23.pad (U : Int) ≤ 9223372036854775807) := by
          have h1 : ¬ fitU b (U : Int) = false := by rw [hfit]; simp
          rw [fitU_no] at h1
          have h2 := HBP.out
          have h3 := Ix23.pad_is (U : Int)
          show _ ∧ _
          omega
        have hUi : (U : Int) ≤ 9223372036854775807 := by omega
        have HCT3 : Hid (2 * k + 2 ≤ Ix23.cnt (bs.take (a + nU))) := by
          have h1 := cnt_more HD.out HGA.out
          have h2 := HCT.out
          show _ ≤ _
          omega
        clear hU9 hfit hf3 hs3 c3 HU HO HS HF HC H1 H2 HBU HPU HCT HGA
        have HV : Hid _ := rightP_any W0 f s ad n c (a + nU) bs (b + Ix23.pad (U : Int)) p w3 HB.out HD.out HN.out.1 HN.out.2.1 HF3.out HS3.out HSL.out.1 HBP.out.2.2.1 HBP.out.2.2.2
        have hpV := getN_pos (bs.drop (a + nU))
        have hbV := fun e => (getN_back (dig_drop HD.out (a + nU)) e).2
        rw [List.length_drop, HN.out.2.2] at hpV
        have HGB : Hid (getN (bs.drop (a + nU)) = ((getN (bs.drop (a + nU))).1, (getN (bs.drop (a + nU))).2.1, (getN (bs.drop (a + nU))).2.2)) := rfl
        have r3 := H3.out rfl HFU.out
        have r4 := H4.out rfl HFU.out
        have r5 := H5.out rfl HFU.out
        obtain ⟨VV, hV⟩ : ∃ x, (getN (bs.drop (a + nU))).1 = x := ⟨_, rfl⟩
        obtain ⟨nV, hnV⟩ : ∃ x, (getN (bs.drop (a + nU))).2.1 = x := ⟨_, rfl⟩
        obtain ⟨eV, heV⟩ : ∃ x, (getN (bs.drop (a + nU))).2.2 = x := ⟨_, rfl⟩
        rw [hV, hnV, heV] at HV HGB
        rw [heV] at r3 r4 r5
        rw [hV] at r4 r5
        rw [hnV] at r5
        rw [hV, heV] at hbV
        rw [hnV, heV] at hpV
        obtain ⟨pU, hpUU⟩ : ∃ x, b + Ix23.pad (U : Int) = x := ⟨_, rfl⟩
        rw [hpUU] at HV HS3 HBP3 r5
        have H3' : Hid _ := r3
        have H4' : Hid _ := r4
        have H5' : Hid _ := r5
        have HBV : Hid (eV = 0 → VV ≤ 9223372036854775807) := hbV
        have HPV : Hid _ := hpV
        clear r3 r4 r5 hbV hpV hV hnV heV H3 H4 H5 hpUU HFU
        go_wp2_with fail
        refine Calls.mono HV.out ?_
        rintro z w4 ⟨⟨he, rfl⟩ | ⟨he, hfit, rfl⟩ | ⟨he, hfit, rfl, hf4, hs4⟩, c4⟩
        · have hE : recE bs = eV := by rw [HR0.out, HR.out, H3'.out he]
          exact ⟨rfl, .inl ⟨by rw [hE]; exact he, by rw [hE]⟩, HC3.out.trans c4 (fun z e => by have := HSL.out; omega)⟩
        · have hE : recE bs = 2 := by rw [HR0.out, HR.out, H4'.out he hfit]
          exact ⟨rfl, .inl ⟨by rw [hE]; decide, by rw [hE]⟩, HC3.out.trans c4 (fun z e => by have := HSL.out; omega)⟩
        subst he
        have hV9 := HBV.out rfl
        have HA4 : Hid (a + nU + nV ≤ n) := by have h1 := HPV.out; have h2 := HA3.out; show _ ≤ _; omega
        have HF4 : Hid (Fd W0 f ad n c (a + nU + nV) w4) := HF3.out.on hf4 c4 (fun z e => by have := HSL.out; omega) HA4.out
        have HS4 : Hid (Sms w4 s pU (p + (VV : Int))) := hs4
        have HO4 : Hid (RcO w4 s (.slice va acc.length vc) acc) := owns_keepI HO3.out c4 (fun g e e2 => by
          rcases e2 with e2 | e2
          · subst e2
            exact own_neT HO3.out HF3.out.fld (by decide) e
          · subst e2
            exact own_neT HO3.out HS3.out (by decide) e)
        have HC4 : Hid (Chg (fun z => z = f) w0 w4) := HC3.out.trans c4 (fun z e => by have := HSL.out; omega)
        have HBP4 : Hid (0 ≤ p + (VV : Int) ∧ p + (VV : Int) ≤ 9223372036854775807) := by
          have h1 : ¬ fitP p (VV : Int) = false := by rw [hfit]; simp
          rw [fitP_no (by omega)] at h1
          have h2 := HBP.out
          show _ ∧ _
          omega
        have hVi : (VV : Int) ≤ 9223372036854775807 := by omega
        have HCT4 : Hid (2 * (k + 1) + 1 ≤ Ix23.cnt (bs.take (a + nU + nV))) := by
          have h1 := cnt_more HD.out HGB.out
          have h2 := HCT3.out
          show _ ≤ _
          omega
        have HK1 : Hid (k + 1 ≤ 8796093022208) := by
          have h1 := cnt_take bs (a + nU + nV)
          have h2 := HCT4.out
          have h3 := HK.out
          show _ ≤ _
          rcases HM.out with h4 | h4 <;> omega
        have HGO2 : Hid _ := H5'.out rfl hfit
        have cS := chg_one w4 (.cells #[.int .i64 (U : Int), .int .i64 (VV : Int)] 43)
        have hown := HO4.out.new cS
        unfold RcO at hown
        rw [HAL.out] at hown ⊢
        have hsrc := from_rc w4 ⟨(U : Int), (VV : Int)⟩ 43
        have hB6 : s ≤ (w4.alloc (.cells #[.int .i64 (U : Int), .int .i64 (VV : Int)] 43)).heap.size := by have h1 := (HC4.out.trans cS (fun _ f => f.elim)).size; have h2 := HSL.out; omega
        have HF6 : Hid (Fd W0 f ad n c (a + nU + nV) (w4.alloc (.cells #[.int .i64 (U : Int), .int .i64 (VV : Int)] 43))) := HF4.out.go cS (fun _ f => f.elim)
        have HS6 : Hid (Sms (w4.alloc (.cells #[.int .i64 (U : Int), .int .i64 (VV : Int)] 43)) s pU (p + (VV : Int))) := HS4.out.keep cS (fun f => f)
        have HC6 : Hid (Chg (fun z => z = f) w0 (w4.alloc (.cells #[.int .i64 (U : Int), .int .i64 (VV : Int)] 43))) := HC4.out.trans cS (fun _ f => f.elim)
        clear cS hV9 hfit hf4 hs4 c4 HV HO3 HS3 HF3 HC3 HBV HPV HCT3 HGB H3' H4' H5' HF4 HS4 HC4 HK
        go_wp2_with (at_builtin; refine wpList_append_moved rfl _ _ 23 rfl s 43 iu (.agg #[.int .i64 0, .int .i64 0]) 2 16 Tryd.underlying23 hiu hu0 hu1 hu2 rfl (by decide) _ k (rcs acc) rfl (some ⟨w4.heap.size, 0, none⟩) 1 1 rfl (rcs [⟨(U : Int), (VV : Int)⟩]) ?h1 ?h2 ?h3 ?m1 ?m2 ?m3 ?_)
        case h1 => exact hown
        case h2 => exact hsrc
        case h3 => exact rcs_cell _
        case m1 => have := HK1.out; unfold maxLen; omega
        case m2 => have := HK1.out; omega
        case m3 => exact hB6
        intro v7 w7 ho7 hg7 hm7
        have hc7 : Chg (fun z => (Value.slice va k vc).ownBlock = some z) (w4.alloc (.cells #[.int .i64 (U : Int), .int .i64 (VV : Int)] 43)) w7 := (Chg.refl _ _).grown hg7 (fun g e => .inl e)
        have hne1 := own_neT hown HF6.out.fld (by decide)
        have hne2 := own_neT hown HS6.out (by decide)
        have hlo := fun g e => (hown.lt g e).1
        have HF7 : Hid (Fd W0 f ad n c (a + nU + nV) w7) := HF6.out.go hc7 (fun z e => ⟨fun e2 => hne1 (by rw [← e2]; exact e), by have h1 := hlo z e; have h2 := HSL.out; omega⟩)
        have HS7 : Hid (Sms w7 s pU (p + (VV : Int))) := HS6.out.keep hc7 (fun e => hne2 e)
        have HC7 : Hid (Chg (fun z => z = f) w0 w7) := HC6.out.trans hc7 (fun z e => .inr (by have h1 := hlo z e; have h2 := HSL.out; omega))
        have HO7 : Hid (RcO w7 s v7 (acc ++ [⟨(U : Int), (VV : Int)⟩])) := RcO.push HO4.out (by rw [HAL.out]) ho7
        obtain ⟨a7, d7, rfl, _⟩ := formI ho7
        have HRN : Hid (Ix23.getRs mm 0 0 (1 + m1) [] (bs.drop (1 + m1)) = Ix23.getRs (mm - (k + 1)) pU (p + (VV : Int)) (a + nU + nV) (acc ++ [⟨(U : Int), (VV : Int)⟩]) (bs.drop (a + nU + nV))) := by
          show _ = _
          rw [show mm - (k + 1) = md by have := HMD.out; omega, HR.out, HGO2.out, Nat.add_assoc]
        have HAL7 : Hid ((acc ++ [(⟨(U : Int), (VV : Int)⟩ : Rec)]).length = k + 1) := by show _ = _; rw [List.length_append, HAL.out]; rfl
        have hkm : k + 1 ≤ mm := by have := HMD.out; omega
        clear ho7 hg7 hm7 hc7 hne1 hne2 hlo hown hsrc hB6 HC6 HGO2 HF6 HS6 HO4
        go_wp2
        go_roundw
        case rel => exact ⟨k + 1, a + nU + nV, pU, p + VV, _, hkm, by go_num, HO7, HAL7, HS7, HF7, HRN, HCT4, ⟨HBP3.out.1, HBP3.out.2, HBP4.out.1, HBP4.out.2⟩, HC7⟩
        case measure => simp [intOf]; omega
      · obtain rfl : k = mm := by omega
        have hR := HR.out
        rw [Nat.sub_self, Ix23.getRs] at hR
        have HE : Hid (recE bs = 0 ∧ recR bs = (acc, a)) := ⟨by rw [HR0.out, hR], by rw [HRR.out, hR]⟩
        clear hR
        go_wp2
        go_ret
        exact ⟨.inr ⟨HE.out.1, _, rfl, by rw [HE.out.2]; exact owns_base HO.out HSL.out.2.1, by rw [HE.out.2]; exact HF.out⟩, HC.out⟩
end Go.Proofs.YtehfcfpbjenmjaaDoor
