/- The landed window's lay; of no statement by itself. -/
import Derived.Test.YtlnocjicmofjfaaDoorXd
namespace Go.Proofs.YtlnocjicmofjfaaDoor
open Go.RowKit
set_option linter.unusedVariables false

theorem row8_drop {w : World} {ad : Option Addr} {m c : Nat} {xs : List Int} (h : Row8 w ad m c xs) (k : Nat) (hk : k ≤ m) (hmc : m ≤ c) : Row8 w (cutA ad c k) (m - k) (c - k) (xs.drop k) := by
  have hl := h.1
  refine ⟨by rw [List.length_drop]; omega, ?_⟩
  unfold cutA
  rcases h.2 with ⟨rfl, rfl, rfl⟩ | ⟨x, rfl, hx⟩
  · exact .inl ⟨by simp, by omega, by omega⟩
  · by_cases e : c = k
    · rw [if_pos e]
      refine .inr ⟨x, rfl, fun j u hu => ?_⟩
      rw [List.drop_eq_nil_of_le (by omega)] at hu
      cases hu
    · rw [if_neg e]
      refine .inr ⟨_, rfl, fun j u hu => ?_⟩
      rw [List.map_drop, List.getElem?_drop] at hu
      have := hx (k + j) u hu
      rw [addr_add]
      exact this

def lenV : Value → Nat
  | .slice _ n _ => n
  | _ => 0
def LayJ (w1 : World) (B : Nat) (v : Value) (N : Nat) (xs : List Value) : Nat → World → Prop
  | 0, w => Chg (fun _ => False) w1 w
  | _ + 1, w => w.ownsRow B 5 1 v N xs ∧ Chg (fun z => v.ownBlock = some z) w1 w
theorem sizeInfo8 : (Tryd.prog.info? 5).map (·.size) = some 1 := by kernel_rfl
theorem src_front {w : World} {ad : Option Addr} {m c : Nat} {zs ys rest : List Nat} (h : Row8 w ad m c (nums zs)) (e : zs = ys ++ rest) (h0 : 0 < ((nums ys).map (Value.int .u8)).length) : ∃ x, ad = some x ∧ ∀ j u, ((nums ys).map (Value.int .u8))[j]? = some u → w.cell? (x.add j) = some u := by
  rw [List.length_map, nums_len] at h0
  rcases h.2 with ⟨_, em, _⟩ | ⟨x, rfl, hx⟩
  · have := h.1
    rw [nums_len, e, List.length_append] at this
    omega
  · refine ⟨x, rfl, fun j u hu => hx j u ?_⟩
    rw [e, nums_append, List.map_append, List.getElem?_append_left]
    · exact hu
    · exact (List.getElem?_eq_some_iff.1 hu).1
theorem dst_at {w : World} {B : Nat} {ad : Option Addr} {n c : Nat} {xs : List Value} (h : w.ownsRow B 5 1 (.slice ad n c) n xs) (p : Nat) (hp : p < n) : ∀ g, (Value.slice ad n c).ownBlock = some g → cutA ad c p = some ⟨g, p, none⟩ := fun g e => by
  have hc := own_cap h
  rcases h.2 with ⟨e0, e1⟩ | ⟨g', cap, cur, e0, _⟩
  · omega
  · simp only [Value.slice.injEq, true_and] at e0
    obtain ⟨rfl, rfl⟩ := e0
    simp only [Value.ownBlock, Option.some.injEq] at e
    subst e
    unfold cutA
    rw [if_neg (by omega)]
    simp only [Option.map_some, Option.some.injEq]
    unfold Addr.add
    split
    · rename_i h0; rw [h0]
    · simp
theorem splice_nums (ring ys : List Nat) (p : Nat) : splice (ins .u8 (nums ring)) p ((nums ys).map (Value.int .u8)) = ins .u8 (nums (ring.take p ++ (ys ++ ring.drop (p + ys.length)))) := by
  simp [splice, ins, nums, List.map_take, List.map_drop]
set_option maxHeartbeats 4000000 in
set_option maxRecDepth 100000 in
theorem wlay_any {B a : Nat} {v : Value} {n : Nat} {bs ring0 : List Nat} (ad : Option Addr) (m c : Nat) (xs : List Nat) (w : World) (h : WinR w B a v n bs ring0) (hr : Row8 w ad m c (nums xs)) (hdig : Rc.Dig xs) (hap : 0 < m → ∀ x, ad = some x → ¬ Foot a v x.block) (hmc : m ≤ c) (hm : m ≤ 140737488355328) (hl : bs.length + m ≤ 1152921504606846976) (hfull : 0 < m → ring0.length = n) :
    Calls Tryd.prog 42 #[.pointer (some ⟨a, 0, none⟩), .slice ad m c] w fun e w' => e = .returned (.tuple #[]) ∧ Win w' B a v n (bs ++ xs) ∧ Chg (Foot a v) w w' := by
  have HH : Hid (WinR w B a v n bs ring0) := h
  have HR : Hid (Row8 w ad m c (nums xs)) := hr
  have HD : Hid (Rc.Dig xs) := hdig
  have HA : Hid (0 < m → ∀ x, ad = some x → ¬ Foot a v x.block) := hap
  have HF : Hid (0 < m → ring0.length = n) := hfull
  have HL : Hid ((bs ++ xs).length ≤ 1152921504606846976) := by show _ ≤ _; rw [List.length_append]; have := hr.1; rw [nums_len] at this; omega
  clear h hr hdig hap hfull hl
  go_enter Tryd.func42, Tryd.ntmps42
  go_wp2_with fail
  go_loopw [1] (fun bv wr => ∃ adr M cr qs zs ring, bv = .slice adr M cr ∧ M ≤ cr ∧ M ≤ 140737488355328 ∧ Hid (Row8 wr adr M cr (nums zs)) ∧ Hid (WinR wr B a v n qs ring) ∧ Hid (qs ++ zs = bs ++ xs) ∧ Hid (Chg (Foot a v) w wr) ∧ Hid (0 < M → ∀ x, adr = some x → ¬ Foot a v x.block) ∧ Hid (0 < M → ring.length = n) ∧ Hid (Rc.Dig zs)) (fun bv _ => lenV bv)
  case atStart => exact ⟨ad, m, c, bs, xs, ring0, rfl, hmc, hm, HR.out, HH.out, rfl, Chg.refl _ _, HA.out, HF.out, HD.out⟩
  case round =>
    clear HH HR HD HA HF
    obtain ⟨adr, M, cr, qs, zs, ring, rfl, hMc, hM, HROW, HW, HE, HC, HAP, HFU, HDZ⟩ := hrel
    have hzl : zs.length = M := by have := HROW.out.1; rw [nums_len] at this; exact this
    by_cases h0 : 0 < M
    · have hd : decide (0 < M) = true := decide_eq_true h0
      have hRn := HFU.out h0
      have HAPP : Hid (∀ x, adr = some x → ¬ Foot a v x.block) := HAP.out h0
      obtain ⟨ad0, c0, hv⟩ := form1 HW.out.own
      rw [hRn] at hv
      obtain ⟨L, hL⟩ : ∃ L, qs.length = L := ⟨_, rfl⟩
      obtain ⟨p, hp⟩ : ∃ p, L % n = p := ⟨_, rfl⟩
      have htm := tmod_nat L n
      rw [hp] at htm
      have hn1 : (1 : Int) ≤ (n : Int) := by have := HW.out.n1; omega
      have hn0 : (n : Int) ≠ 0 := by omega
      have hnz : ¬ n = 0 := by omega
      have hn2 : (n : Int) ≤ 4294967295 := by have := HW.out.n2; omega
      have hplt : p < n := by rw [← hp]; exact Nat.mod_lt _ HW.out.n1
      have hpn : p ≤ n := by omega
      have hpb : (p : Int) ≤ 4294967295 := by omega
      obtain ⟨k, hk⟩ : ∃ k, Nat.min M (n - p) = k := ⟨_, rfl⟩
      have hkm : k ≤ M := by rw [← hk]; exact Nat.min_le_left _ _
      have hkp : k ≤ n - p := by rw [← hk]; exact Nat.min_le_right _ _
      have hk1 : 0 < k := by rw [← hk]; exact Nat.lt_min.2 ⟨h0, by omega⟩
      obtain ⟨ys, hys⟩ : ∃ ys, zs.take k = ys := ⟨_, rfl⟩
      obtain ⟨rs, hrs⟩ : ∃ rs, zs.drop k = rs := ⟨_, rfl⟩
      have hyr : zs = ys ++ rs := by rw [← hys, ← hrs, List.take_append_drop]
      have hyl : ys.length = k := by rw [← hys, List.length_take]; omega
      have HYS : Hid (zs = ys ++ rs) := hyr
      have HYL : Hid (ys.length = k) := hyl
      have hone := one8 ys
      have hLb : (L : Int) + (k : Int) ≤ 1152921504606846976 := by
        have h1 := HL.out
        rw [← HE.out, List.length_append, hzl, hL] at h1
        omega
      have HLN : Hid (((nums ys).map (Value.int .u8)).length = Nat.min M (n - p)) := by show _ = _; rw [List.length_map, nums_len, hyl, hk]
      have HFIT : Hid (p + ((nums ys).map (Value.int .u8)).length ≤ n) := by show _ ≤ _; rw [List.length_map, nums_len, hyl]; omega
      have HO : Hid (wr.ownsRow B 5 1 (.slice ad0 n c0) n (ins .u8 (nums ring))) := by have := HW.out.own; rw [hRn, hv] at this; exact this
      have HDST : Hid (∀ g, (Value.slice ad0 n c0).ownBlock = some g → cutA ad0 c0 p = some ⟨g, p, none⟩) := dst_at HO.out p hplt
      have HBK : Hid (wr.heap[a]? = some (.cells #[.int .i64 (n : Int), .int .i64 (L : Int), .slice ad0 n c0] 84 (0, 0))) := by have := HW.out.blk; rw [hL, hv] at this; exact this
      have HNE : Hid ((Value.slice ad0 n c0).ownBlock ≠ some a) := by rw [← hv]; exact HW.out.ne
      have HRM : Hid (RM n (qs ++ ys) (ring.take p ++ (ys ++ ring.drop (p + ys.length)))) := by
        have := HW.out.ok.lay HW.out.n1 hRn ys (by rw [hL, hp, hyl]; omega)
        rw [hL, hp] at this
        exact this
      have HDG : Hid (Rc.Dig (qs ++ ys)) := fun x hx => by
        rcases List.mem_append.1 hx with f | f
        · exact HW.out.dig x f
        · exact HDZ.out x (by rw [hyr]; exact List.mem_append_left _ f)
      have HFX : Hid (v = .slice ad0 n c0 ∧ qs.length = L ∧ ring.length = n ∧ zs.length = M ∧ zs.drop k = rs) := ⟨hv, hL, hRn, hzl, hrs⟩
      clear hv hL hp hk hyr hyl hys hzl hRn hrs h0
      go_wp2_with fail
      refine wp_region_phase (mk := fun u => #[_, _, _, _, _, _, _, _, u 8, u 9, u 10, u 11, u 12, u 13, u 14, u 15, u 16, u 17, u 18, u 19, u 20, u 21, u 22, u 23, _, _, _, _, _, _, _, _, _, _, _]) (G := lookG [(8, .pointer (some ⟨a, 0, none⟩)), (9, .pointer (some ⟨a, 0, none⟩)), (10, .pointer (some ⟨a, 2, none⟩)), (11, .slice ad0 n c0), (12, .pointer (some ⟨a, 0, none⟩)), (13, .pointer (some ⟨a, 0, none⟩)), (14, .pointer (some ⟨a, 1, none⟩)), (15, .int .i64 (L : Int)), (16, .pointer (some ⟨a, 0, none⟩)), (17, .pointer (some ⟨a, 0, none⟩)), (18, .pointer (some ⟨a, 0, none⟩)), (19, .int .i64 (n : Int)), (20, .int .i64 (p : Int)), (21, .slice (cutA ad0 c0 p) (n - p) (c0 - p)), (22, .slice adr M cr), (23, .int .i64 (k : Int))]) (J := fun q _ ww => ww.heap[a]? = some (.cells #[.int .i64 (n : Int), .int .i64 (L : Int), .slice ad0 n c0] 84 (0, 0)) ∧ LayJ wr B (.slice ad0 n c0) n (splice (ins .u8 (nums ring)) p ((nums ys).map (Value.int .u8))) q ww) [15] (fun t => match t with | 8 => u8 | 9 => u9 | 10 => u10 | 11 => u11 | 12 => u12 | 13 => u13 | 14 => u14 | 15 => u15 | 16 => u16 | 17 => u17 | 18 => u18 | 19 => u19 | 20 => u20 | 21 => u21 | 22 => u22 | 23 => u23 | _ => undef) rfl (by kernel_rfl) 16 _ rfl rfl (by kernel_rfl) (by kernel_rfl) (by kernel_rfl) (by decide) ?_ ?_ ?_ ?_ ?_
      · repeat (refine ⟨⟨_, rfl, fun _ _ => rfl⟩, ?_⟩)
        exact trivial
      · exact fun q u u2 ww _ h => h
      · exact ⟨blk_keep HBK.out (Chg.refl (fun _ => False) wr).drew (fun f => f), (Chg.refl _ wr).drew⟩
      · refine ⟨?_, ?_, ?_, ?_, ?_, ?_, ?_, ?_, ?_, ?_, ?_, ?_, ?_, ?_, ?_, ?_, trivial⟩
        · show StepR _ _ _ _ _ _  _ -- 8
          unfold StepR
          intro q u w_ hj hd K hK
          clear hd
          go_simp
          exact hK.out (.pointer (some ⟨a, 0, none⟩)) rfl
        · show StepR _ _ _ _ _ _  _ -- 9
          unfold StepR
          intro q u w_ hj hd K hK
          have h8 : u 8 = .pointer (some ⟨a, 0, none⟩) := hd.get 0 (by kernel_rfl)
          clear hd
          simp only [h8] at hK
          go_simp
          exact hK.out (.pointer (some ⟨a, 0, none⟩)) rfl
        · show StepR _ _ _ _ _ _  _ -- 10
          unfold StepR
          intro q u w_ hj hd K hK
          have h9 : u 9 = .pointer (some ⟨a, 0, none⟩) := hd.get 1 (by kernel_rfl)
          clear hd
          simp only [h9] at hK
          go_simp
          exact hK.out (.pointer (some ⟨a, 2, none⟩)) rfl
        · show StepR _ _ _ _ _ _  _ -- 11
          unfold StepR
          intro q u w_ hj hd K hK
          have h10 : u 10 = .pointer (some ⟨a, 2, none⟩) := hd.get 2 (by kernel_rfl)
          clear hd
          simp only [h10] at hK
          obtain ⟨x0, x1, x2, _⟩ := cells3 hj.1
          go_simp
          exact hK.out _ rfl
        · show StepR _ _ _ _ _ _  _ -- 12
          unfold StepR
          intro q u w_ hj hd K hK
          clear hd
          go_simp
          exact hK.out (.pointer (some ⟨a, 0, none⟩)) rfl
        · show StepR _ _ _ _ _ _  _ -- 13
          unfold StepR
          intro q u w_ hj hd K hK
          have h12 : u 12 = .pointer (some ⟨a, 0, none⟩) := hd.get 4 (by kernel_rfl)
          clear hd
          simp only [h12] at hK
          go_simp
          exact hK.out (.pointer (some ⟨a, 0, none⟩)) rfl
        · show StepR _ _ _ _ _ _  _ -- 14
          unfold StepR
          intro q u w_ hj hd K hK
          have h13 : u 13 = .pointer (some ⟨a, 0, none⟩) := hd.get 5 (by kernel_rfl)
          clear hd
          simp only [h13] at hK
          go_simp
          exact hK.out (.pointer (some ⟨a, 1, none⟩)) rfl
        · show StepR _ _ _ _ _ _  _ -- 15
          unfold StepR
          intro q u w_ hj hd K hK
          have h14 : u 14 = .pointer (some ⟨a, 1, none⟩) := hd.get 6 (by kernel_rfl)
          clear hd
          simp only [h14] at hK
          obtain ⟨x0, x1, x2, _⟩ := cells3 hj.1
          go_simp
          exact hK.out _ rfl
        · show StepR _ _ _ _ _ _  _ -- 16
          unfold StepR
          intro q u w_ hj hd K hK
          clear hd
          go_simp
          exact hK.out (.pointer (some ⟨a, 0, none⟩)) rfl
        · show StepR _ _ _ _ _ _  _ -- 17
          unfold StepR
          intro q u w_ hj hd K hK
          have h16 : u 16 = .pointer (some ⟨a, 0, none⟩) := hd.get 8 (by kernel_rfl)
          clear hd
          simp only [h16] at hK
          go_simp
          exact hK.out (.pointer (some ⟨a, 0, none⟩)) rfl
        · show StepR _ _ _ _ _ _  _ -- 18
          unfold StepR
          intro q u w_ hj hd K hK
          have h17 : u 17 = .pointer (some ⟨a, 0, none⟩) := hd.get 9 (by kernel_rfl)
          clear hd
          simp only [h17] at hK
          go_simp
          exact hK.out (.pointer (some ⟨a, 0, none⟩)) rfl
        · show StepR _ _ _ _ _ _  _ -- 19
          unfold StepR
          intro q u w_ hj hd K hK
          have h18 : u 18 = .pointer (some ⟨a, 0, none⟩) := hd.get 10 (by kernel_rfl)
          clear hd
          simp only [h18] at hK
          obtain ⟨x0, x1, x2, _⟩ := cells3 hj.1
          go_simp
          exact hK.out _ rfl
        · show StepR _ _ _ _ _ _  _ -- 20
          unfold StepR
          intro q u w_ hj hd K hK
          have h15 : u 15 = .int .i64 (L : Int) := hd.get 7 (by kernel_rfl)
          have h19 : u 19 = .int .i64 (n : Int) := hd.get 11 (by kernel_rfl)
          clear hd
          simp only [h15, h19] at hK
          go_simp
          exact hK.out (.int .i64 (p : Int)) rfl
        · show StepR _ _ _ _ _ _  _ -- 21
          unfold StepR
          intro q u w_ hj hd K hK
          have h11 : u 11 = .slice ad0 n c0 := hd.get 3 (by kernel_rfl)
          have h20 : u 20 = .int .i64 (p : Int) := hd.get 12 (by kernel_rfl)
          clear hd
          refine step_cut_lo (a := ⟨_, []⟩) (by rfl) (.tmp 11) (.tmp 20) (by rfl) ad0 n c0 p (by exact h11) (by exact h20) hpn (hK.out _ rfl)
        · show StepR _ _ _ _ _ _  _ -- 22
          unfold StepR
          intro q u w_ hj hd K hK
          clear hd
          go_simp
          exact hK.out (.slice adr M cr) rfl
        · show StepW _ _ _ _ _ _ 0 _ -- 23
          unfold StepW
          intro u w_ hj hd K hK
          have h21 : u 21 = .slice (cutA ad0 c0 p) (n - p) (c0 - p) := hd.get 13 (by kernel_rfl)
          have h22 : u 22 = .slice adr M cr := hd.get 14 (by kernel_rfl)
          clear hd
          obtain ⟨hb, hc⟩ := hj
          have hc : Chg (fun _ => False) wr w_ := hc
          refine step_copy_own (a := ⟨_, []⟩) (by rfl) (.tmp 21) (.tmp 22) 24 24 (by rfl) B 5 Tryd.underlying24 sizeInfo8 (.slice ad0 n c0) n (ins .u8 (nums ring)) (ownsRow_keep HO.out hc (fun _ _ f => f)) p (cutA ad0 c0 p) (n - p) (c0 - p) (by exact h21) adr M cr (by exact h22) ((nums ys).map (Value.int .u8)) HLN.out HFIT.out (fun _ => HDST.out) (fun h0 => src_front (Bk.row8_chg HROW.out hc) HYS.out h0) hone ?_
          intro w2 ho2 c2
          have e9 : goInt ((nums ys).map (Value.int .u8)).length = .int .i64 (k : Int) := by rw [List.length_map, nums_len, HYL.out]; rfl
          rw [e9]
          exact hK.out _ w2 ⟨blk_keep hb c2 (fun f => HNE.out f), ho2, (hc.mono (fun _ f => f.elim)).trans c2 (fun z f => .inl f)⟩ rfl
      · intro u w2 hj hA K hK
        obtain ⟨hb2, ho2, c2⟩ := hj
        have h23 : u 23 = .int .i64 (k : Int) := hA.at 23 (by kernel_rfl)
        obtain ⟨_, q1, _, qf⟩ := cells3 hb2
        obtain ⟨g1, g2, g3, g4, g5⟩ := HFX.out
        rw [splice_nums, HYL.out] at ho2
        have b3 := set3 hb2 1 (.int .i64 ((L : Int) + (k : Int)))
        have cS : Chg (fun z => z = a) w2 (w2.setCell ⟨a, 1, none⟩ (.int .i64 ((L : Int) + (k : Int)))) := (Chg.refl (fun z => z = a) w2).setCell (p := ⟨a, 1, none⟩) (.inl rfl) _
        have cT : Chg (Foot a v) wr (w2.setCell ⟨a, 1, none⟩ (.int .i64 ((L : Int) + (k : Int)))) := (c2.mono (fun z f => .inl (.inr (by rw [g1]; exact f)))).trans cS (fun z f => .inl (.inl f))
        have hrl : (ring.take p ++ (ys ++ ring.drop (p + ys.length))).length = n := by rw [List.length_append, List.length_append, List.length_take, List.length_drop, HYL.out, g3]; omega
        have HW3 : Hid (WinR (w2.setCell ⟨a, 1, none⟩ (.int .i64 ((L : Int) + (k : Int)))) B a v n (qs ++ ys) (ring.take p ++ (ys ++ ring.drop (p + ys.length)))) := by
          refine ⟨HW.out.hr, ?_, ownsRow_keep (by rw [hrl, g1, HYL.out]; exact ho2) cS (fun g e f => ?_), HRM.out, HW.out.n1, HW.out.n2, HDG.out⟩
          · rw [List.length_append, g2, HYL.out, Int.natCast_add, g1]
            exact b3
          · rw [f, g1] at e
            exact HNE.out e
        have HC3 : Hid (Chg (Foot a v) w (w2.setCell ⟨a, 1, none⟩ (.int .i64 ((L : Int) + (k : Int))))) := HC.out.trans cT (fun z f => .inl f)
        have HROW3 : Hid (Row8 (w2.setCell ⟨a, 1, none⟩ (.int .i64 ((L : Int) + (k : Int)))) (cutA adr cr k) (M - k) (cr - k) (nums rs)) := by
          have h1 := row8_keep HROW.out cT HAPP.out
          have h2 := row8_drop h1 k hkm hMc
          rw [show (nums zs).drop k = nums rs by rw [← g5]; simp [nums, List.map_drop]] at h2
          exact h2
        have HE3 : Hid ((qs ++ ys) ++ rs = bs ++ xs) := by show _ = _; rw [List.append_assoc, ← HYS.out]; exact HE.out
        have HAP3 : Hid (∀ x, cutA adr cr k = some x → ¬ Foot a v x.block) := fun x e => by
          obtain ⟨y, e1, e2⟩ := cutA_block e
          rw [e2]
          exact HAPP.out y e1
        have HDZ3 : Hid (Rc.Dig rs) := fun x hx => HDZ.out x (by rw [HYS.out]; exact List.mem_append_right _ hx)
        have HLN3 : Hid ((ring.take p ++ (ys ++ ring.drop (p + ys.length))).length = n) := hrl
        clear hA g1 g2 g3 g4 g5 b3 cS cT hrl ho2 c2 hb2 HROW HW HE HC HAP HAPP HFU HDZ HBK HO HRM HDG HFX HDST HFIT HLN
        go_simp
        refine hK.out _ _ ?_
        clear hK h23 K
        go_wp2_with (refine wpList_cut_lo rfl _ _ rfl adr M cr k rfl rfl hkm ?_)
        go_roundw
        case rel => exact ⟨_, _, _, _, _, _, rfl, by omega, by omega, HROW3.out, HW3.out, HE3.out, HC3.out, fun _ => HAP3.out, fun _ => HLN3.out, HDZ3.out⟩
        case measure => simp [lenV]; omega
    · have hz : M = 0 := by omega
      subst hz
      have hzs := List.eq_nil_of_length_eq_zero hzl
      have HFIN : Hid (Win wr B a v n (bs ++ xs)) := by
        have := HE.out
        rw [hzs, List.append_nil] at this
        rw [← this]
        exact ⟨ring, HW.out⟩
      clear hzl hzs
      go_wp2
      go_end0
      exact ⟨rfl, HFIN.out, HC.out⟩
end Go.Proofs.YtlnocjicmofjfaaDoor
