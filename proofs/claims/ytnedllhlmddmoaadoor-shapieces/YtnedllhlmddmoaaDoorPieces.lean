/- ShaPieces holds: for every list of bytes and every list of numbers handed to the statement's function the call returns true and the arguments read afterwards as they did; the two tables are as the program's text lays them. -/
import Derived.Test.YtnedllhlmddmoaaDoorKnown
import Derived.Test.YtnedllhlmddmoaaDoorCards
import Derived.Test.YtnedllhlmddmoaaDoorTie
import Derived.SevenTiedAt
namespace Go.Proofs.YtnedllhlmddmoaaDoor.shaPieces
open Go.ChangeShapes Go.WideShapes Go.ChangeAt Go.RowKit
set_option linter.unusedVariables false

/-- Numbers in a row. -/
def Ints (w : World) (ad : Option Addr) (m : Nat) : Prop := (ad = none ∧ m = 0) ∨ ∃ x, ad = some x ∧ ∀ j, j < m → ∃ z : Int, w.cell? (x.add j) = some (.int .i64 z) ∧ -9223372036854775808 ≤ z ∧ z ≤ 9223372036854775807

theorem bytes3 : Tryd.prog.bytesOf 3 = 8 := by kernel_rfl

theorem open64 {H : Type} {enc : TypeId × Value → H} {W : World} {a : Option Addr} {len cap : Nat} {d : DataW H} {p : List MemPlace}
    (h : DataW.Trod enc Tryd.prog W 0 (fun _ => true) true 38 (.slice a len cap) d p) (hsz : ∀ elems spare, d = .slice elems spare → (elems.length + spare.length) * Tryd.prog.bytesOf 3 ≤ reachBytes) :
    Ints W a len ∧ len ≤ 140737488351232 := by
  obtain ⟨fuel, hf⟩ := h
  rcases open_ints Tryd.underlying38 Tryd.underlying3 (by kernel_rfl) hf with ⟨hcs, _⟩ | ⟨x, l, c, zs, hcs, _, hl, hm, hz, hx, hcell, hwz⟩
  · simp [Value.cells] at hcs
    obtain ⟨rfl, rfl, rfl⟩ := hcs
    exact ⟨.inl ⟨rfl, rfl⟩, by omega⟩
  · simp [Value.cells] at hcs
    obtain ⟨rfl, rfl, rfl⟩ := hcs
    simp only [Prod.mk.injEq] at hx
    have hs := hsz _ _ hx.1
    simp only [if_true] at hz
    rw [bytes3] at hs
    simp only [lits, List.length_map, List.length_take, List.length_drop, reachBytes] at hs
    refine ⟨.inr ⟨x, rfl, fun j hj => ?_⟩, by omega⟩
    have hj2 : j < zs.length := by omega
    refine ⟨zs.getD j 0, ?_, ?_⟩
    · rw [hcell j hj2]
    · have := bounds_i64 (hwz (zs.getD j 0) (by simp [List.getD, hj2]))
      omega

theorem slice_h8 (w : World) (y : Option Addr) (n c q : Nat) (hq : q ≤ c) : (Instr.slice 29 (.slice y n c) none (some (.int .i64 (q : Int))) none).run Tryd.prog w = .ok (.slice y q c) w := by
  have h1 := run_slice_h (P := Tryd.prog) w 29 y n c Tryd.underlying29 .i64 (q : Int) (by omega) (by omega)
  have h3 : (sizeOf (Tryd.prog.elem 29)).run Tryd.prog w = .ok 1 w := one_size (by kernel_rfl) w
  rw [h1, h3]
  simp only [Result.andThen_ok, sliced, Int.toNat_natCast, Nat.mul_one, Nat.sub_zero]
  congr 2
  split
  · rfl
  · cases y with
    | none => rfl
    | some x => simp [Addr.add]

theorem slice_h8b (w : World) (y : Option Addr) (n c q : Nat) (hq : q ≤ c) : (Instr.sliceAt 29 (.slice y n c) none (some (.int .i64 (q : Int))) none).run Tryd.prog w = .ok (.slice y q c) w :=
  (run_sliceAt_slice (P := Tryd.prog) w 29 _ _ _ _ Tryd.underlying29).trans (slice_h8 w y n c q hq)

theorem slice_lh8 (w : World) (y : Option Addr) (n c lo hi : Nat) (h1 : lo ≤ hi) (h2 : hi ≤ c) : (Instr.sliceAt 29 (.slice y n c) (some (.int .i64 (lo : Int))) (some (.int .i64 (hi : Int))) none).run Tryd.prog w = .ok (.slice (if c = lo then y else y.map (·.add lo)) (hi - lo) (c - lo)) w := by
  have h0 := run_slice_lh (P := Tryd.prog) w 29 y n c Tryd.underlying29 .i64 .i64 (lo : Int) (hi : Int) (by omega) (by omega) (by omega)
  have h3 : (sizeOf (Tryd.prog.elem 29)).run Tryd.prog w = .ok 1 w := one_size (by kernel_rfl) w
  rw [run_sliceAt_slice (P := Tryd.prog) w 29 _ _ _ _ Tryd.underlying29, h0, h3]
  simp only [Result.andThen_ok, sliced, Int.toNat_natCast, Nat.mul_one]

theorem row8_cut {w : World} {ad : Option Addr} {m c : Nat} {xs : List Int} (h : Row8 w ad m c xs) (hmc : m ≤ c) (lo n c' : Nat) (hn : lo + n ≤ m) (hc' : c = 0 → c' = 0) :
    Row8 w (if c = lo then ad else ad.map (·.add lo)) n c' ((xs.drop lo).take n) := by
  have hl := h.1
  refine ⟨by simp; omega, ?_⟩
  rcases h.2 with ⟨rfl, rfl, rfl⟩ | ⟨x, rfl, hx⟩
  · refine .inl ⟨by simp, by omega, hc' rfl⟩
  · by_cases e : c = lo
    · rw [if_pos e]
      have hn0 : n = 0 := by omega
      subst hn0
      exact .inr ⟨x, rfl, fun j u hu => by simp at hu⟩
    · rw [if_neg e]
      refine .inr ⟨_, rfl, fun j u hu => ?_⟩
      rw [List.map_take, List.map_drop, List.getElem?_take] at hu
      split at hu
      · rw [List.getElem?_drop] at hu
        have := hx (lo + j) u hu
        rw [← this]
        congr 1
        unfold Addr.add
        by_cases h1 : lo = 0
        · subst h1; simp
        · by_cases h2 : j = 0
          · subst h2; simp [h1]
          · simp [h1, h2, Nat.add_assoc]
      · cases hu

set_option maxHeartbeats 8000000 in
set_option maxRecDepth 100000 in
theorem walk (a : Option Addr) (la ca : Nat) (xa : List Nat) (b : Option Addr) (lb cb : Nat) (w0 : World) (hT : Tab w0) (r_a : Row8 w0 a la ca (up xa)) (hba : Byt xa)
    (hca : la ≤ ca) (hna : la ≤ 140737488351232) (hI : Ints w0 b lb) (hnb : lb ≤ 140737488351232) :
    Calls Tryd.prog 6 #[.slice a la ca, .slice b lb cb] w0 fun e w' => e = .returned (.bool true) ∧ Chg (fun _ => False) w0 w' := by
  obtain ⟨i0, hi, hz0, hz1, hz2⟩ := info_parts info5
  have hxa : xa.length = la := by rw [← up_length]; exact r_a.1
  have T0 := hT
  have HI : Hid (Ints w0 b lb) := hI
  clear hI
  go_enter Tryd.func6, Tryd.ntmps6
  go_wp2_with fail
  refine (new_any w0 T0).mono ?_
  rintro e w1 ⟨a_h, rfl, ha, hE1, c1⟩
  have g_h : 2 ≤ a_h := Nat.le_trans T0.two ha
  go_wp2_with fail
  refine (lawknown_any w1 (T0.new c1)).mono ?_
  rintro e w2 ⟨rfl, c2⟩
  have c02 := chg_then c1 c2
  have hE2 := hE1.new c2
  clear hE1 c1 c2
  go_wp2_with fail
  go_loopw [18, 6] (fun i at_ wr => ∃ j A : Nat, j ≤ lb ∧ A ≤ la ∧ i = .int .i64 j ∧ at_ = .int .i64 A ∧ Eat wr a_h Sha.I 0 (xa.take A) ∧ Chg (fun _ => False) w0 wr) (fun i _ _ => lb - (intOf i).toNat)
  case atStart => exact ⟨0, 0, by omega, by omega, rfl, rfl, hE2, c02⟩
  case round =>
    clear hE2 c02
    obtain ⟨j, A, hj, hA, rfl, rfl, hE, hC⟩ := hrel
    have hAc : A ≤ ca := by omega
    by_cases hlt : j < lb
    · obtain ⟨x, rfl, z, hz, hz1b, hz2b⟩ : ∃ x, b = some x ∧ ∃ z : Int, wr.cell? (x.add j) = some (.int .i64 z) ∧ -9223372036854775808 ≤ z ∧ z ≤ 9223372036854775807 := by
        rcases HI.out with ⟨_, h0⟩ | ⟨x, e, hx⟩
        · omega
        · obtain ⟨z, h1, h2, h3⟩ := hx j hlt
          refine ⟨x, e, z, ?_, h2, h3⟩
          rw [World.cell?_of_block (w := w0) (hC.block _ (World.block_lt_of_cell? w0 _ h1) (fun f => f))]
          exact h1
      have hM : (la : Int) - (A : Int) + 1 = ((la - A + 1 : Nat) : Int) := by omega
      have hM0 : 0 < la - A + 1 := by omega
      have hMl : la - A + 1 ≤ 140737488351233 := by omega
      by_cases hneg : z < 0
      · obtain ⟨Zn, rfl⟩ : ∃ Zn : Nat, z = -(Zn : Int) - 1 := ⟨(-(z + 1)).toNat, by omega⟩
        have hZn : Zn < 9223372036854775808 := by omega
        have hRm : (Zn : Int) % ((la - A + 1 : Nat) : Int) = ((Zn % (la - A + 1) : Nat) : Int) := by simp
        have hRt : (Zn : Int).tmod ((la - A + 1 : Nat) : Int) = ((Zn % (la - A + 1) : Nat) : Int) := by rw [Int.tmod_eq_emod_of_nonneg (by omega)]; exact hRm
        have hRl : Zn % (la - A + 1) < la - A + 1 := Nat.mod_lt _ hM0
        have hMn : ¬ (la - A + 1 = 0) := by omega
        generalize Zn % (la - A + 1) = R at *
        have hAR : A + R ≤ la := by omega
        generalize la - A + 1 = M at *
        have hadd : (A : Int) + (R : Int) = ((A + R : Nat) : Int) := by omega
        have hs1 := slice_lh8 (wr.alloc (.cells #[] 5)) a la ca A (A + R) (by omega) (by omega)
        have ry := row8_cut r_a hca A R (ca - A) (by omega) (by omega)
        rw [← up_drop, ← up_take] at ry
        rw [show A + R - A = R by omega] at hs1
        have HT : Hid (xa.take (A + R) = xa.take A ++ (xa.drop A).take R) := List.take_add
        have hxl : ((xa.drop A).take R).length = R := by rw [List.length_take, List.length_drop]; omega
        have hbx : Byt ((xa.drop A).take R) := (hba.drop A).take R
        generalize (xa.drop A).take R = xr at *
        generalize (if ca = A then a else a.map (·.add A)) = y1 at *
        have hA2 : A + R ≤ la := hAR
        have hA2c : A + R ≤ ca := by omega
        have h0 := own_empty wr
        have c0 := chg_one wr (.cells #[] 5)
        have z_h : a_h < wr.heap.size := by obtain ⟨_, hq, _, _⟩ := hE; exact lt_of_blk hq.blk
        generalize hA2e : A + R = A2 at *
        go_wp2_with (at_builtin; refine wpList_append_moved rfl _ _ 29 rfl wr.heap.size 5 i0 (.int .u8 0) 1 1 Tryd.underlying29 hi hz0 hz1 hz2 rfl (by decide) _ 0 (cells8 []) rfl y1 R (ca - A) rfl (cells8 (up xr)) h0 (row8_chg ry (chg_then hC c0)).src (oneCells _) (by unfold maxLen; omega) (by omega) c0.size ?_)
        intro v1 w2 ho1 hg1 _
        have cc : Chg (fun _ => False) wr w2 := c0.grown hg1 (fun k e => .inr ((h0.lt k e).1))
        rw [cells8_append, List.nil_append] at ho1
        obtain ⟨ba, bc, rfl, hrow, hle, hblk⟩ := own_row8d ho1
        have C2 := chg_then hC cc
        have E2 := hE.new cc
        clear hg1 h0 c0 ho1 hs1 hE hC cc hz
        go_wp2_with fail
        refine (write_any a_h Sha.I 0 (xa.take A) xr ba R bc w2 (T0.new C2) g_h Sha.I_st rfl E2 hrow hbx (fun _ y e => by have := hblk y e; omega) (by simp; omega) hle).mono ?_
        rintro e w3 ⟨rfl, hE3, c3⟩
        have C3 : Chg (fun _ => False) w0 w3 := C2.trans c3 (fun i e => .inr (by omega))
        have E3 : Eat w3 a_h Sha.I 0 (xa.take A2) := by rw [HT.out]; exact hE3
        have l_D : (Sha.sum Sha.I 0 (xa.take A2)).length = 32 := Sha.told_len _
        obtain ⟨D, HD⟩ : ∃ D, Hid (Sha.sum Sha.I 0 (xa.take A2) = D) := ⟨_, rfl⟩
        rw [HD.out] at l_D
        have E1 : [xa.take A2].flatten = xa.take A2 := by simp
        clear E2 hrow hle hblk hE3 c3 C2 ry
        go_wp2_with fail
        generalize decide ((j : Int) < (lb : Int)) = dd at *
        refine wp_region_free (mk := fun u => #[_, _, _, _, _, _, _, _, _, _, _, _, _, _, _, _, _, _, _, _, _, _, _, _, _, _, _, _, _, _, _, _, _, _, _, _, _, _, _, _, _, _, _, _, _, _, _, u 47, u 48, u 49, u 50, u 51, u 52, u 53, u 54, u 55, u 56, u 57, u 58, u 59, u 60, _, _, _, _, _, _, _, _, _, _, _, _, _, _, _, _, _, _, _, _, _, _, _, _, _, _, _, _, _, _, _, _, _, _]) (F := fun slot vv ww => (look [(47, .val (.pointer (some ⟨a_h, 0, none⟩))), (48, .val (.agg (byts D).toArray)), (49, .val (.slice a la ca)), (50, .val (.int .i64 (A2 : Nat))), (51, .val (.slice a A2 ca)), (52, .pcs [xa.take A2]), (53, .val (.agg (byts D).toArray)), (54, .val (.bool false)), (55, .val (.bool false)), (56, .val (.pointer (some ⟨a_h, 0, none⟩))), (57, .val (.int .i64 (A2 : Nat))), (58, .val (.int .i64 (A2 : Nat))), (59, .val (.bool false)), (60, .val (.bool false))] slot).holds vv ww) (fun t => if t = 47 then u47 else if t = 48 then u48 else if t = 49 then u49 else if t = 50 then u50 else if t = 51 then u51 else if t = 52 then u52 else if t = 53 then u53 else if t = 54 then u54 else if t = 55 then u55 else if t = 56 then u56 else if t = 57 then u57 else if t = 58 then u58 else if t = 59 then u59 else if t = 60 then u60 else undef) rfl (by kernel_rfl) (by kernel_rfl) ?_ (fun _ v w w' hc h => Fact.stays _ v w w' hc h) ?_ ?_
        · repeat (refine ⟨⟨_, rfl, fun _ _ => rfl⟩, ?_⟩)
          exact trivial
        · refine ⟨?_, ?_, ?_, ?_, ?_, ?_, ?_, ?_, ?_, ?_, ?_, ?_, ?_, ?_, trivial⟩
          · intro u w hc hd K hK -- 47
            clear hd
            go_simp
            exact hK.out (.pointer (some ⟨a_h, 0, none⟩)) w (Chg.refl _ _) rfl
          · intro u w hc hd K hK -- 48
            have h47 : (Fact.val (.pointer (some ⟨a_h, 0, none⟩))).holds (u 47) w := hd.get 0 (by kernel_rfl)
            simp only [Fact.holds] at h47
            clear hd
            simp only [h47] at hK
            go_simp
            go_at_call 17
            refine (hsum_any a_h Sha.I 0 (xa.take A2) w (T0.new (chg_then C3 hc)) Sha.I_st rfl (E3.new hc) (by simp; omega)).mono ?_
            rintro e w1 ⟨rfl, cc_⟩
            rw [HD.out]
            exact hK.out _ _ (cc_) rfl
          · intro u w hc hd K hK -- 49
            clear hd
            go_simp
            exact hK.out (.slice a la ca) w (Chg.refl _ _) rfl
          · intro u w hc hd K hK -- 50
            clear hd
            go_simp
            exact hK.out (.int .i64 (A2 : Nat)) w (Chg.refl _ _) rfl
          · intro u w hc hd K hK -- 51
            have h49 : (Fact.val (.slice a la ca)).holds (u 49) w := hd.get 2 (by kernel_rfl)
            simp only [Fact.holds] at h49
            have h50 : (Fact.val (.int .i64 (A2 : Nat))).holds (u 50) w := hd.get 3 (by kernel_rfl)
            simp only [Fact.holds] at h50
            clear hd
            simp only [h49, h50] at hK
            have hsl := slice_h8 w a la ca A2 hA2c
            have hsl2 := slice_h8b w a la ca A2 hA2c
            go_simp
            exact hK.out _ w (Chg.refl _ _) rfl
          · intro u w hc hd K hK -- 52
            have h51 : (Fact.val (.slice a A2 ca)).holds (u 51) w := hd.get 4 (by kernel_rfl)
            simp only [Fact.holds] at h51
            clear hd
            simp only [h51] at hK
            go_simp
            exact hK.out _ _ (chg_one w _) ⟨_, rfl, pieces_one 29 ⟨_, _, _, rfl, by rw [up_take]; exact row8_take (row8_chg r_a (chg_then C3 hc)) A2 hA2, hba.take _, hA2c⟩⟩
          · intro u w hc hd K hK -- 53
            have h52 : (Fact.pcs [xa.take A2]).holds (u 52) w := hd.get 5 (by kernel_rfl)
            obtain ⟨q52, h52, p52⟩ := h52
            simp only [List.length_cons, List.length_nil, Nat.reduceAdd] at h52
            clear hd
            simp only [h52] at hK
            go_simp
            go_at_call 14
            refine (sum_some q52 1 1 [xa.take A2] w (T0.new (chg_then C3 hc)) p52 rfl (by decide) (by simp; omega)).mono ?_
            rintro e w1 ⟨rfl, cc_⟩
            rw [E1, HD.out]
            exact hK.out _ _ (cc_) rfl
          · intro u w hc hd K hK -- 54
            have h48 : (Fact.val (.agg (byts D).toArray)).holds (u 48) w := hd.get 1 (by kernel_rfl)
            simp only [Fact.holds] at h48
            have h53 : (Fact.val (.agg (byts D).toArray)).holds (u 53) w := hd.get 6 (by kernel_rfl)
            simp only [Fact.holds] at h53
            clear hd
            simp only [h48, h53] at hK
            have hq := same32 w D l_D
            go_simp
            exact hK.out _ w (Chg.refl _ _) rfl
          · intro u w hc hd K hK -- 55
            have h54 : (Fact.val (.bool false)).holds (u 54) w := hd.get 7 (by kernel_rfl)
            simp only [Fact.holds] at h54
            clear hd
            simp only [h54] at hK
            go_simp
            exact hK.out (.bool false) w (Chg.refl _ _) rfl
          · intro u w hc hd K hK -- 56
            have h55 : (Fact.val (.bool false)).holds (u 55) w := hd.get 8 (by kernel_rfl)
            simp only [Fact.holds] at h55
            clear hd
            simp only [h55] at hK
            go_simp
            exact hK.out (.pointer (some ⟨a_h, 0, none⟩)) w (Chg.refl _ _) rfl
          · intro u w hc hd K hK -- 57
            have h56 : (Fact.val (.pointer (some ⟨a_h, 0, none⟩))).holds (u 56) w := hd.get 9 (by kernel_rfl)
            simp only [Fact.holds] at h56
            have h55 : (Fact.val (.bool false)).holds (u 55) w := hd.get 8 (by kernel_rfl)
            simp only [Fact.holds] at h55
            clear hd
            simp only [h55, h56] at hK
            go_simp
            go_at_call 18
            refine (len_any a_h Sha.I 0 (xa.take A2) w (E3.new hc)).mono ?_
            rintro e w1 ⟨rfl, rfl⟩
            rw [show (0 + ((xa.take A2) : List Nat).length) = A2 from by simp; omega]
            exact hK.out _ _ (Chg.refl _ _) rfl
          · intro u w hc hd K hK -- 58
            have h55 : (Fact.val (.bool false)).holds (u 55) w := hd.get 8 (by kernel_rfl)
            simp only [Fact.holds] at h55
            clear hd
            simp only [h55] at hK
            go_simp
            exact hK.out (.int .i64 (A2 : Nat)) w (Chg.refl _ _) rfl
          · intro u w hc hd K hK -- 59
            have h57 : (Fact.val (.int .i64 (A2 : Nat))).holds (u 57) w := hd.get 10 (by kernel_rfl)
            simp only [Fact.holds] at h57
            have h58 : (Fact.val (.int .i64 (A2 : Nat))).holds (u 58) w := hd.get 11 (by kernel_rfl)
            simp only [Fact.holds] at h58
            have h55 : (Fact.val (.bool false)).holds (u 55) w := hd.get 8 (by kernel_rfl)
            simp only [Fact.holds] at h55
            clear hd
            simp only [h55, h57, h58] at hK
            go_simp
            exact hK.out (.bool false) w (Chg.refl _ _) rfl
          · intro u w hc hd K hK -- 60
            have h55 : (Fact.val (.bool false)).holds (u 55) w := hd.get 8 (by kernel_rfl)
            simp only [Fact.holds] at h55
            have h59 : (Fact.val (.bool false)).holds (u 59) w := hd.get 12 (by kernel_rfl)
            simp only [Fact.holds] at h59
            clear hd
            simp only [h55, h59] at hK
            go_simp
            exact hK.out (.bool false) w (Chg.refl _ _) rfl
        · intro u w hc hA
          have a60 : u 60 = _ := hA.at 60 (by kernel_rfl)
          clear hA
          rw [a60]
          have HC4 : Hid (Chg (fun _ => False) w0 w) := chg_then C3 hc
          have HE4 : Hid (Eat w a_h Sha.I 0 (xa.take A2)) := E3.new hc
          clear a60 E3 C3 hc HD l_D
          go_wp2
          go_roundw
          case rel => exact ⟨j + 1, A2, by omega, hA2, by go_num, rfl, HE4.out, HC4.out⟩
          case measure => simp [intOf]; omega
      · obtain ⟨Zn, rfl⟩ : ∃ Zn : Nat, z = (Zn : Int) := ⟨z.toNat, by omega⟩
        have hZn : Zn < 9223372036854775808 := by omega
        have hRm : (Zn : Int) % ((la - A + 1 : Nat) : Int) = ((Zn % (la - A + 1) : Nat) : Int) := by simp
        have hRt : (Zn : Int).tmod ((la - A + 1 : Nat) : Int) = ((Zn % (la - A + 1) : Nat) : Int) := by rw [Int.tmod_eq_emod_of_nonneg (by omega)]; exact hRm
        have hRl : Zn % (la - A + 1) < la - A + 1 := Nat.mod_lt _ hM0
        have hMn : ¬ (la - A + 1 = 0) := by omega
        generalize Zn % (la - A + 1) = R at *
        have hAR : A + R ≤ la := by omega
        generalize la - A + 1 = M at *
        have hadd : (A : Int) + (R : Int) = ((A + R : Nat) : Int) := by omega
        have hs1 := slice_lh8 (wr.alloc (.cells #[] 5)) a la ca A (A + R) (by omega) (by omega)
        have ry := row8_cut r_a hca A R (ca - A) (by omega) (by omega)
        rw [← up_drop, ← up_take] at ry
        rw [show A + R - A = R by omega] at hs1
        have HT : Hid (xa.take (A + R) = xa.take A ++ (xa.drop A).take R) := List.take_add
        have hxl : ((xa.drop A).take R).length = R := by rw [List.length_take, List.length_drop]; omega
        have hbx : Byt ((xa.drop A).take R) := (hba.drop A).take R
        generalize (xa.drop A).take R = xr at *
        generalize (if ca = A then a else a.map (·.add A)) = y1 at *
        have hA2 : A + R ≤ la := hAR
        have hA2c : A + R ≤ ca := by omega
        have h0 := own_empty wr
        have c0 := chg_one wr (.cells #[] 5)
        have z_h : a_h < wr.heap.size := by obtain ⟨_, hq, _, _⟩ := hE; exact lt_of_blk hq.blk
        generalize hA2e : A + R = A2 at *
        go_wp2_with (at_builtin; refine wpList_append_moved rfl _ _ 29 rfl wr.heap.size 5 i0 (.int .u8 0) 1 1 Tryd.underlying29 hi hz0 hz1 hz2 rfl (by decide) _ 0 (cells8 []) rfl y1 R (ca - A) rfl (cells8 (up xr)) h0 (row8_chg ry (chg_then hC c0)).src (oneCells _) (by unfold maxLen; omega) (by omega) c0.size ?_)
        intro v1 w2 ho1 hg1 _
        have cc : Chg (fun _ => False) wr w2 := c0.grown hg1 (fun k e => .inr ((h0.lt k e).1))
        rw [cells8_append, List.nil_append] at ho1
        obtain ⟨ba, bc, rfl, hrow, hle, hblk⟩ := own_row8d ho1
        have C2 := chg_then hC cc
        have E2 := hE.new cc
        clear hg1 h0 c0 ho1 hs1 hE hC cc hz
        go_wp2_with fail
        refine (write_any a_h Sha.I 0 (xa.take A) xr ba R bc w2 (T0.new C2) g_h Sha.I_st rfl E2 hrow hbx (fun _ y e => by have := hblk y e; omega) (by simp; omega) hle).mono ?_
        rintro e w3 ⟨rfl, hE3, c3⟩
        have C3 : Chg (fun _ => False) w0 w3 := C2.trans c3 (fun i e => .inr (by omega))
        have E3 : Eat w3 a_h Sha.I 0 (xa.take A2) := by rw [HT.out]; exact hE3
        have l_D : (Sha.sum Sha.I 0 (xa.take A2)).length = 32 := Sha.told_len _
        obtain ⟨D, HD⟩ : ∃ D, Hid (Sha.sum Sha.I 0 (xa.take A2) = D) := ⟨_, rfl⟩
        rw [HD.out] at l_D
        have E1 : [xa.take A2].flatten = xa.take A2 := by simp
        clear E2 hrow hle hblk hE3 c3 C2 ry
        go_wp2_with fail
        generalize decide ((j : Int) < (lb : Int)) = dd at *
        refine wp_region_free (mk := fun u => #[_, _, _, _, _, _, _, _, _, _, _, _, _, _, _, _, _, _, _, _, _, _, _, _, _, _, _, _, _, _, _, _, _, _, _, _, _, _, _, _, _, _, _, _, _, _, _, u 47, u 48, u 49, u 50, u 51, u 52, u 53, u 54, u 55, u 56, u 57, u 58, u 59, u 60, _, _, _, _, _, _, _, _, _, _, _, _, _, _, _, _, _, _, _, _, _, _, _, _, _, _, _, _, _, _, _, _, _, _]) (F := fun slot vv ww => (look [(47, .val (.pointer (some ⟨a_h, 0, none⟩))), (48, .val (.agg (byts D).toArray)), (49, .val (.slice a la ca)), (50, .val (.int .i64 (A2 : Nat))), (51, .val (.slice a A2 ca)), (52, .pcs [xa.take A2]), (53, .val (.agg (byts D).toArray)), (54, .val (.bool false)), (55, .val (.bool false)), (56, .val (.pointer (some ⟨a_h, 0, none⟩))), (57, .val (.int .i64 (A2 : Nat))), (58, .val (.int .i64 (A2 : Nat))), (59, .val (.bool false)), (60, .val (.bool false))] slot).holds vv ww) (fun t => if t = 47 then u47 else if t = 48 then u48 else if t = 49 then u49 else if t = 50 then u50 else if t = 51 then u51 else if t = 52 then u52 else if t = 53 then u53 else if t = 54 then u54 else if t = 55 then u55 else if t = 56 then u56 else if t = 57 then u57 else if t = 58 then u58 else if t = 59 then u59 else if t = 60 then u60 else undef) rfl (by kernel_rfl) (by kernel_rfl) ?_ (fun _ v w w' hc h => Fact.stays _ v w w' hc h) ?_ ?_
        · repeat (refine ⟨⟨_, rfl, fun _ _ => rfl⟩, ?_⟩)
          exact trivial
        · refine ⟨?_, ?_, ?_, ?_, ?_, ?_, ?_, ?_, ?_, ?_, ?_, ?_, ?_, ?_, trivial⟩
          · intro u w hc hd K hK -- 47
            clear hd
            go_simp
            exact hK.out (.pointer (some ⟨a_h, 0, none⟩)) w (Chg.refl _ _) rfl
          · intro u w hc hd K hK -- 48
            have h47 : (Fact.val (.pointer (some ⟨a_h, 0, none⟩))).holds (u 47) w := hd.get 0 (by kernel_rfl)
            simp only [Fact.holds] at h47
            clear hd
            simp only [h47] at hK
            go_simp
            go_at_call 17
            refine (hsum_any a_h Sha.I 0 (xa.take A2) w (T0.new (chg_then C3 hc)) Sha.I_st rfl (E3.new hc) (by simp; omega)).mono ?_
            rintro e w1 ⟨rfl, cc_⟩
            rw [HD.out]
            exact hK.out _ _ (cc_) rfl
          · intro u w hc hd K hK -- 49
            clear hd
            go_simp
            exact hK.out (.slice a la ca) w (Chg.refl _ _) rfl
          · intro u w hc hd K hK -- 50
            clear hd
            go_simp
            exact hK.out (.int .i64 (A2 : Nat)) w (Chg.refl _ _) rfl
          · intro u w hc hd K hK -- 51
            have h49 : (Fact.val (.slice a la ca)).holds (u 49) w := hd.get 2 (by kernel_rfl)
            simp only [Fact.holds] at h49
            have h50 : (Fact.val (.int .i64 (A2 : Nat))).holds (u 50) w := hd.get 3 (by kernel_rfl)
            simp only [Fact.holds] at h50
            clear hd
            simp only [h49, h50] at hK
            have hsl := slice_h8 w a la ca A2 hA2c
            have hsl2 := slice_h8b w a la ca A2 hA2c
            go_simp
            exact hK.out _ w (Chg.refl _ _) rfl
          · intro u w hc hd K hK -- 52
            have h51 : (Fact.val (.slice a A2 ca)).holds (u 51) w := hd.get 4 (by kernel_rfl)
            simp only [Fact.holds] at h51
            clear hd
            simp only [h51] at hK
            go_simp
            exact hK.out _ _ (chg_one w _) ⟨_, rfl, pieces_one 29 ⟨_, _, _, rfl, by rw [up_take]; exact row8_take (row8_chg r_a (chg_then C3 hc)) A2 hA2, hba.take _, hA2c⟩⟩
          · intro u w hc hd K hK -- 53
            have h52 : (Fact.pcs [xa.take A2]).holds (u 52) w := hd.get 5 (by kernel_rfl)
            obtain ⟨q52, h52, p52⟩ := h52
            simp only [List.length_cons, List.length_nil, Nat.reduceAdd] at h52
            clear hd
            simp only [h52] at hK
            go_simp
            go_at_call 14
            refine (sum_some q52 1 1 [xa.take A2] w (T0.new (chg_then C3 hc)) p52 rfl (by decide) (by simp; omega)).mono ?_
            rintro e w1 ⟨rfl, cc_⟩
            rw [E1, HD.out]
            exact hK.out _ _ (cc_) rfl
          · intro u w hc hd K hK -- 54
            have h48 : (Fact.val (.agg (byts D).toArray)).holds (u 48) w := hd.get 1 (by kernel_rfl)
            simp only [Fact.holds] at h48
            have h53 : (Fact.val (.agg (byts D).toArray)).holds (u 53) w := hd.get 6 (by kernel_rfl)
            simp only [Fact.holds] at h53
            clear hd
            simp only [h48, h53] at hK
            have hq := same32 w D l_D
            go_simp
            exact hK.out _ w (Chg.refl _ _) rfl
          · intro u w hc hd K hK -- 55
            have h54 : (Fact.val (.bool false)).holds (u 54) w := hd.get 7 (by kernel_rfl)
            simp only [Fact.holds] at h54
            clear hd
            simp only [h54] at hK
            go_simp
            exact hK.out (.bool false) w (Chg.refl _ _) rfl
          · intro u w hc hd K hK -- 56
            have h55 : (Fact.val (.bool false)).holds (u 55) w := hd.get 8 (by kernel_rfl)
            simp only [Fact.holds] at h55
            clear hd
            simp only [h55] at hK
            go_simp
            exact hK.out (.pointer (some ⟨a_h, 0, none⟩)) w (Chg.refl _ _) rfl
          · intro u w hc hd K hK -- 57
            have h56 : (Fact.val (.pointer (some ⟨a_h, 0, none⟩))).holds (u 56) w := hd.get 9 (by kernel_rfl)
            simp only [Fact.holds] at h56
            have h55 : (Fact.val (.bool false)).holds (u 55) w := hd.get 8 (by kernel_rfl)
            simp only [Fact.holds] at h55
            clear hd
            simp only [h55, h56] at hK
            go_simp
            go_at_call 18
            refine (len_any a_h Sha.I 0 (xa.take A2) w (E3.new hc)).mono ?_
            rintro e w1 ⟨rfl, rfl⟩
            rw [show (0 + ((xa.take A2) : List Nat).length) = A2 from by simp; omega]
            exact hK.out _ _ (Chg.refl _ _) rfl
          · intro u w hc hd K hK -- 58
            have h55 : (Fact.val (.bool false)).holds (u 55) w := hd.get 8 (by kernel_rfl)
            simp only [Fact.holds] at h55
            clear hd
            simp only [h55] at hK
            go_simp
            exact hK.out (.int .i64 (A2 : Nat)) w (Chg.refl _ _) rfl
          · intro u w hc hd K hK -- 59
            have h57 : (Fact.val (.int .i64 (A2 : Nat))).holds (u 57) w := hd.get 10 (by kernel_rfl)
            simp only [Fact.holds] at h57
            have h58 : (Fact.val (.int .i64 (A2 : Nat))).holds (u 58) w := hd.get 11 (by kernel_rfl)
            simp only [Fact.holds] at h58
            have h55 : (Fact.val (.bool false)).holds (u 55) w := hd.get 8 (by kernel_rfl)
            simp only [Fact.holds] at h55
            clear hd
            simp only [h55, h57, h58] at hK
            go_simp
            exact hK.out (.bool false) w (Chg.refl _ _) rfl
          · intro u w hc hd K hK -- 60
            have h55 : (Fact.val (.bool false)).holds (u 55) w := hd.get 8 (by kernel_rfl)
            simp only [Fact.holds] at h55
            have h59 : (Fact.val (.bool false)).holds (u 59) w := hd.get 12 (by kernel_rfl)
            simp only [Fact.holds] at h59
            clear hd
            simp only [h55, h59] at hK
            go_simp
            exact hK.out (.bool false) w (Chg.refl _ _) rfl
        · intro u w hc hA
          have a60 : u 60 = _ := hA.at 60 (by kernel_rfl)
          clear hA
          rw [a60]
          have HC4 : Hid (Chg (fun _ => False) w0 w) := chg_then C3 hc
          have HE4 : Hid (Eat w a_h Sha.I 0 (xa.take A2)) := E3.new hc
          clear a60 E3 C3 hc HD l_D
          go_wp2
          go_roundw
          case rel => exact ⟨j + 1, A2, by omega, hA2, by go_num, rfl, HE4.out, HC4.out⟩
          case measure => simp [intOf]; omega
    · have hy2 := fun w => slice_8 w a la ca A hA
      have ry2 := row8_cut r_a hca A (la - A) (ca - A) (by omega) (by omega)
      rw [← up_drop, ← up_take, List.take_of_length_le (by simp; omega)] at ry2
      generalize (if ca = A then a else a.map (·.add A)) = y2 at *
      have hy2b := fun w => (run_sliceAt_slice (P := Tryd.prog) w 29 (.slice a la ca) (some (.int .i64 (A : Int))) none none Tryd.underlying29).trans (hy2 w)
      have hs1 := hy2 (wr.alloc (.cells #[] 5))
      have hs2 := hy2b (wr.alloc (.cells #[] 5))
      have h0 := own_empty wr
      have c0 := chg_one wr (.cells #[] 5)
      have z_h : a_h < wr.heap.size := by obtain ⟨_, hq, _, _⟩ := hE; exact lt_of_blk hq.blk
      have E1 : [xa].flatten = xa := by simp
      have E3f : [[], xa.take A, xa.drop A].flatten = xa := by simp
      go_wp2_with (at_builtin; refine wpList_append_moved rfl _ _ 29 rfl wr.heap.size 5 i0 (.int .u8 0) 1 1 Tryd.underlying29 hi hz0 hz1 hz2 rfl (by decide) _ 0 (cells8 []) rfl y2 (la - A) (ca - A) rfl (cells8 (up (xa.drop A))) h0 (row8_chg ry2 (chg_then hC c0)).src (oneCells _) (by unfold maxLen; omega) (by omega) c0.size ?_)
      intro v1 w2 ho1 hg1 _
      have cc : Chg (fun _ => False) wr w2 := c0.grown hg1 (fun k e => .inr ((h0.lt k e).1))
      rw [cells8_append, List.nil_append] at ho1
      obtain ⟨ba, bc, rfl, hrow, hle, hblk⟩ := own_row8d ho1
      have C2 := chg_then hC cc
      have E2 := hE.new cc
      clear hg1 h0 c0 ho1 hs1 hs2 hE hC cc
      go_wp2_with fail
      refine (write_any a_h Sha.I 0 (xa.take A) (xa.drop A) ba _ bc w2 (T0.new C2) g_h Sha.I_st rfl E2 hrow (hba.drop A) (fun _ y e => by have := hblk y e; omega) (by simp; omega) hle).mono ?_
      rintro e w3 ⟨rfl, hE3, c3⟩
      have C3 : Chg (fun _ => False) w0 w3 := C2.trans c3 (fun i e => .inr (by omega))
      have E3 : Eat w3 a_h Sha.I 0 xa := by rw [List.take_append_drop] at hE3; exact hE3
      have l_D : (Sha.sum Sha.I 0 xa).length = 32 := Sha.told_len _
      obtain ⟨D, HD⟩ : ∃ D, Hid (Sha.sum Sha.I 0 xa = D) := ⟨_, rfl⟩
      rw [HD.out] at l_D
      clear E2 hrow hle hblk hE3 c3 C2
      go_wp2_with fail
      generalize decide ((j : Int) < (lb : Int)) = dd at *
      refine wp_region_free (mk := fun u => #[_, _, _, _, u 4, _, _, _, _, _, _, _, _, _, _, _, _, _, _, _, _, _, _, _, _, _, _, _, _, _, _, _, _, _, _, _, _, _, _, _, _, _, _, _, _, _, _, _, _, _, _, _, _, _, _, _, _, _, _, _, _, _, _, _, _, _, _, _, _, u 69, u 70, u 71, u 72, u 73, u 74, u 75, u 76, u 77, u 78, u 79, u 80, u 81, u 82, u 83, u 84, u 85, u 86, u 87, u 88, u 89, u 90, u 91, u 92, u 93, u 94]) (F := fun slot vv ww => (look [(69, .val (.pointer (some ⟨a_h, 0, none⟩))), (70, .val (.agg (byts D).toArray)), (71, .val (.slice a la ca)), (72, .pcs [xa]), (73, .val (.agg (byts D).toArray)), (74, .val (.bool true)), (75, .val (.bool true)), (76, .val (.pointer (some ⟨a_h, 0, none⟩))), (77, .val (.int .i64 (la : Nat))), (78, .val (.slice a la ca)), (79, .val (.int .i64 (la : Nat))), (80, .val (.bool true)), (81, .val (.bool true)), (82, .val (.bool true)), (83, .val (.pointer (some ⟨a_h, 0, none⟩))), (84, .val (.agg (byts D).toArray)), (85, .val (.slice a la ca)), (86, .val (.int .i64 (A : Nat))), (87, .val (.slice a A ca)), (88, .val (.slice a la ca)), (89, .val (.int .i64 (A : Nat))), (90, .val (.slice y2 (la - A) (ca - A))), (91, .pcs [[], xa.take A, xa.drop A]), (92, .val (.agg (byts D).toArray)), (93, .val (.bool true)), (94, .val (.bool true)), (4, .val (.bool true))] slot).holds vv ww) (fun t => if t = 4 then u4 else undef) rfl (by kernel_rfl) (by kernel_rfl) ?_ (fun _ v w w' hc h => Fact.stays _ v w w' hc h) ?_ ?_
      · repeat (refine ⟨⟨_, rfl, fun _ _ => rfl⟩, ?_⟩)
        exact trivial
      · refine ⟨?_, ?_, ?_, ?_, ?_, ?_, ?_, ?_, ?_, ?_, ?_, ?_, ?_, ?_, ?_, ?_, ?_, ?_, ?_, ?_, ?_, ?_, ?_, ?_, ?_, ?_, ?_, trivial⟩
        · intro u w hc hd K hK -- 69
          clear hd
          go_simp
          exact hK.out (.pointer (some ⟨a_h, 0, none⟩)) w (Chg.refl _ _) rfl
        · intro u w hc hd K hK -- 70
          have h69 : (Fact.val (.pointer (some ⟨a_h, 0, none⟩))).holds (u 69) w := hd.get 0 (by kernel_rfl)
          simp only [Fact.holds] at h69
          clear hd
          simp only [h69] at hK
          go_simp
          go_at_call 17
          refine (hsum_any a_h Sha.I 0 xa w (T0.new (chg_then C3 hc)) Sha.I_st rfl (E3.new hc) (by simp; omega)).mono ?_
          rintro e w1 ⟨rfl, cc_⟩
          rw [HD.out]
          exact hK.out _ _ (cc_) rfl
        · intro u w hc hd K hK -- 71
          clear hd
          go_simp
          exact hK.out (.slice a la ca) w (Chg.refl _ _) rfl
        · intro u w hc hd K hK -- 72
          have h71 : (Fact.val (.slice a la ca)).holds (u 71) w := hd.get 2 (by kernel_rfl)
          simp only [Fact.holds] at h71
          clear hd
          simp only [h71] at hK
          go_simp
          exact hK.out _ _ (chg_one w _) ⟨_, rfl, pieces_one 29 ⟨_, _, _, rfl, row8_chg r_a (chg_then C3 hc), hba, hca⟩⟩
        · intro u w hc hd K hK -- 73
          have h72 : (Fact.pcs [xa]).holds (u 72) w := hd.get 3 (by kernel_rfl)
          obtain ⟨q72, h72, p72⟩ := h72
          simp only [List.length_cons, List.length_nil, Nat.reduceAdd] at h72
          clear hd
          simp only [h72] at hK
          go_simp
          go_at_call 14
          refine (sum_some q72 1 1 [xa] w (T0.new (chg_then C3 hc)) p72 rfl (by decide) (by simp; omega)).mono ?_
          rintro e w1 ⟨rfl, cc_⟩
          rw [E1, HD.out]
          exact hK.out _ _ (cc_) rfl
        · intro u w hc hd K hK -- 74
          have h70 : (Fact.val (.agg (byts D).toArray)).holds (u 70) w := hd.get 1 (by kernel_rfl)
          simp only [Fact.holds] at h70
          have h73 : (Fact.val (.agg (byts D).toArray)).holds (u 73) w := hd.get 4 (by kernel_rfl)
          simp only [Fact.holds] at h73
          clear hd
          simp only [h70, h73] at hK
          have hq := same32 w D l_D
          go_simp
          exact hK.out _ w (Chg.refl _ _) rfl
        · intro u w hc hd K hK -- 75
          have h74 : (Fact.val (.bool true)).holds (u 74) w := hd.get 5 (by kernel_rfl)
          simp only [Fact.holds] at h74
          clear hd
          simp only [h74] at hK
          go_simp
          exact hK.out (.bool true) w (Chg.refl _ _) rfl
        · intro u w hc hd K hK -- 76
          have h75 : (Fact.val (.bool true)).holds (u 75) w := hd.get 6 (by kernel_rfl)
          simp only [Fact.holds] at h75
          clear hd
          simp only [h75] at hK
          go_simp
          exact hK.out (.pointer (some ⟨a_h, 0, none⟩)) w (Chg.refl _ _) rfl
        · intro u w hc hd K hK -- 77
          have h76 : (Fact.val (.pointer (some ⟨a_h, 0, none⟩))).holds (u 76) w := hd.get 7 (by kernel_rfl)
          simp only [Fact.holds] at h76
          have h75 : (Fact.val (.bool true)).holds (u 75) w := hd.get 6 (by kernel_rfl)
          simp only [Fact.holds] at h75
          clear hd
          simp only [h75, h76] at hK
          go_simp
          go_at_call 18
          refine (len_any a_h Sha.I 0 xa w (E3.new hc)).mono ?_
          rintro e w1 ⟨rfl, rfl⟩
          rw [show (0 + (xa : List Nat).length) = la from by simp; omega]
          exact hK.out _ _ (Chg.refl _ _) rfl
        · intro u w hc hd K hK -- 78
          have h75 : (Fact.val (.bool true)).holds (u 75) w := hd.get 6 (by kernel_rfl)
          simp only [Fact.holds] at h75
          clear hd
          simp only [h75] at hK
          go_simp
          exact hK.out (.slice a la ca) w (Chg.refl _ _) rfl
        · intro u w hc hd K hK -- 79
          have h78 : (Fact.val (.slice a la ca)).holds (u 78) w := hd.get 9 (by kernel_rfl)
          simp only [Fact.holds] at h78
          have h75 : (Fact.val (.bool true)).holds (u 75) w := hd.get 6 (by kernel_rfl)
          simp only [Fact.holds] at h75
          clear hd
          simp only [h75, h78] at hK
          go_simp
          exact hK.out (.int .i64 (la : Nat)) w (Chg.refl _ _) rfl
        · intro u w hc hd K hK -- 80
          have h77 : (Fact.val (.int .i64 (la : Nat))).holds (u 77) w := hd.get 8 (by kernel_rfl)
          simp only [Fact.holds] at h77
          have h79 : (Fact.val (.int .i64 (la : Nat))).holds (u 79) w := hd.get 10 (by kernel_rfl)
          simp only [Fact.holds] at h79
          have h75 : (Fact.val (.bool true)).holds (u 75) w := hd.get 6 (by kernel_rfl)
          simp only [Fact.holds] at h75
          clear hd
          simp only [h75, h77, h79] at hK
          go_simp
          exact hK.out (.bool true) w (Chg.refl _ _) rfl
        · intro u w hc hd K hK -- 81
          have h75 : (Fact.val (.bool true)).holds (u 75) w := hd.get 6 (by kernel_rfl)
          simp only [Fact.holds] at h75
          have h80 : (Fact.val (.bool true)).holds (u 80) w := hd.get 11 (by kernel_rfl)
          simp only [Fact.holds] at h80
          clear hd
          simp only [h75, h80] at hK
          go_simp
          exact hK.out (.bool true) w (Chg.refl _ _) rfl
        · intro u w hc hd K hK -- 82
          have h81 : (Fact.val (.bool true)).holds (u 81) w := hd.get 12 (by kernel_rfl)
          simp only [Fact.holds] at h81
          clear hd
          simp only [h81] at hK
          go_simp
          exact hK.out (.bool true) w (Chg.refl _ _) rfl
        · intro u w hc hd K hK -- 83
          have h82 : (Fact.val (.bool true)).holds (u 82) w := hd.get 13 (by kernel_rfl)
          simp only [Fact.holds] at h82
          clear hd
          simp only [h82] at hK
          go_simp
          exact hK.out (.pointer (some ⟨a_h, 0, none⟩)) w (Chg.refl _ _) rfl
        · intro u w hc hd K hK -- 84
          have h83 : (Fact.val (.pointer (some ⟨a_h, 0, none⟩))).holds (u 83) w := hd.get 14 (by kernel_rfl)
          simp only [Fact.holds] at h83
          have h82 : (Fact.val (.bool true)).holds (u 82) w := hd.get 13 (by kernel_rfl)
          simp only [Fact.holds] at h82
          clear hd
          simp only [h82, h83] at hK
          go_simp
          go_at_call 17
          refine (hsum_any a_h Sha.I 0 xa w (T0.new (chg_then C3 hc)) Sha.I_st rfl (E3.new hc) (by simp; omega)).mono ?_
          rintro e w1 ⟨rfl, cc_⟩
          rw [HD.out]
          exact hK.out _ _ (cc_) rfl
        · intro u w hc hd K hK -- 85
          have h82 : (Fact.val (.bool true)).holds (u 82) w := hd.get 13 (by kernel_rfl)
          simp only [Fact.holds] at h82
          clear hd
          simp only [h82] at hK
          go_simp
          exact hK.out (.slice a la ca) w (Chg.refl _ _) rfl
        · intro u w hc hd K hK -- 86
          have h82 : (Fact.val (.bool true)).holds (u 82) w := hd.get 13 (by kernel_rfl)
          simp only [Fact.holds] at h82
          clear hd
          simp only [h82] at hK
          go_simp
          exact hK.out (.int .i64 (A : Nat)) w (Chg.refl _ _) rfl
        · intro u w hc hd K hK -- 87
          have h85 : (Fact.val (.slice a la ca)).holds (u 85) w := hd.get 16 (by kernel_rfl)
          simp only [Fact.holds] at h85
          have h86 : (Fact.val (.int .i64 (A : Nat))).holds (u 86) w := hd.get 17 (by kernel_rfl)
          simp only [Fact.holds] at h86
          have h82 : (Fact.val (.bool true)).holds (u 82) w := hd.get 13 (by kernel_rfl)
          simp only [Fact.holds] at h82
          clear hd
          simp only [h82, h85, h86] at hK
          have hsl := slice_h8 w a la ca A hAc
          have hsl2 := slice_h8b w a la ca A hAc
          go_simp
          exact hK.out _ w (Chg.refl _ _) rfl
        · intro u w hc hd K hK -- 88
          have h82 : (Fact.val (.bool true)).holds (u 82) w := hd.get 13 (by kernel_rfl)
          simp only [Fact.holds] at h82
          clear hd
          simp only [h82] at hK
          go_simp
          exact hK.out (.slice a la ca) w (Chg.refl _ _) rfl
        · intro u w hc hd K hK -- 89
          have h82 : (Fact.val (.bool true)).holds (u 82) w := hd.get 13 (by kernel_rfl)
          simp only [Fact.holds] at h82
          clear hd
          simp only [h82] at hK
          go_simp
          exact hK.out (.int .i64 (A : Nat)) w (Chg.refl _ _) rfl
        · intro u w hc hd K hK -- 90
          have h88 : (Fact.val (.slice a la ca)).holds (u 88) w := hd.get 19 (by kernel_rfl)
          simp only [Fact.holds] at h88
          have h89 : (Fact.val (.int .i64 (A : Nat))).holds (u 89) w := hd.get 20 (by kernel_rfl)
          simp only [Fact.holds] at h89
          have h82 : (Fact.val (.bool true)).holds (u 82) w := hd.get 13 (by kernel_rfl)
          simp only [Fact.holds] at h82
          clear hd
          simp only [h82, h88, h89] at hK
          have hsl := hy2 w
          have hsl2 := hy2b w
          go_simp
          exact hK.out _ w (Chg.refl _ _) rfl
        · intro u w hc hd K hK -- 91
          have h87 : (Fact.val (.slice a A ca)).holds (u 87) w := hd.get 18 (by kernel_rfl)
          simp only [Fact.holds] at h87
          have h90 : (Fact.val (.slice y2 (la - A) (ca - A))).holds (u 90) w := hd.get 21 (by kernel_rfl)
          simp only [Fact.holds] at h90
          have h82 : (Fact.val (.bool true)).holds (u 82) w := hd.get 13 (by kernel_rfl)
          simp only [Fact.holds] at h82
          clear hd
          simp only [h82, h87, h90] at hK
          go_simp
          exact hK.out _ _ (chg_one w _) ⟨_, rfl, pieces_three 29 ⟨none, 0, 0, rfl, ⟨rfl, .inl ⟨rfl, rfl, rfl⟩⟩, Byt.nil, Nat.le_refl _⟩ ⟨_, _, _, rfl, by rw [up_take]; exact row8_take (row8_chg r_a (chg_then C3 hc)) A hA, hba.take _, hAc⟩ ⟨_, _, _, rfl, row8_chg ry2 (chg_then C3 hc), hba.drop _, by omega⟩⟩
        · intro u w hc hd K hK -- 92
          have h91 : (Fact.pcs [[], xa.take A, xa.drop A]).holds (u 91) w := hd.get 22 (by kernel_rfl)
          obtain ⟨q91, h91, p91⟩ := h91
          simp only [List.length_cons, List.length_nil, Nat.reduceAdd] at h91
          have h82 : (Fact.val (.bool true)).holds (u 82) w := hd.get 13 (by kernel_rfl)
          simp only [Fact.holds] at h82
          clear hd
          simp only [h82, h91] at hK
          go_simp
          go_at_call 14
          refine (sum_some q91 3 3 [[], xa.take A, xa.drop A] w (T0.new (chg_then C3 hc)) p91 rfl (by decide) (by simp; omega)).mono ?_
          rintro e w1 ⟨rfl, cc_⟩
          rw [E3f, HD.out]
          exact hK.out _ _ (cc_) rfl
        · intro u w hc hd K hK -- 93
          have h84 : (Fact.val (.agg (byts D).toArray)).holds (u 84) w := hd.get 15 (by kernel_rfl)
          simp only [Fact.holds] at h84
          have h92 : (Fact.val (.agg (byts D).toArray)).holds (u 92) w := hd.get 23 (by kernel_rfl)
          simp only [Fact.holds] at h92
          have h82 : (Fact.val (.bool true)).holds (u 82) w := hd.get 13 (by kernel_rfl)
          simp only [Fact.holds] at h82
          clear hd
          simp only [h82, h84, h92] at hK
          have hq := same32 w D l_D
          go_simp
          exact hK.out _ w (Chg.refl _ _) rfl
        · intro u w hc hd K hK -- 94
          have h82 : (Fact.val (.bool true)).holds (u 82) w := hd.get 13 (by kernel_rfl)
          simp only [Fact.holds] at h82
          have h93 : (Fact.val (.bool true)).holds (u 93) w := hd.get 24 (by kernel_rfl)
          simp only [Fact.holds] at h93
          clear hd
          simp only [h82, h93] at hK
          go_simp
          exact hK.out (.bool true) w (Chg.refl _ _) rfl
        · intro u w hc hd K hK -- 4
          have h94 : (Fact.val (.bool true)).holds (u 94) w := hd.get 25 (by kernel_rfl)
          simp only [Fact.holds] at h94
          clear hd
          simp only [h94] at hK
          go_simp
          exact hK.out (.bool true) w (Chg.refl _ _) rfl
      · intro u w hc hA
        have a4 : u 4 = _ := hA.at 4 (by kernel_rfl)
        clear hA
        go_wp2
        go_ret
        exact ⟨by rw [← a4]; rfl, chg_then C3 hc⟩
set_option maxRecDepth 100000 in
theorem lifted (os : Os) (started : os.Started) (H : Type) (enc : TypeId × Value → H) :
    ReturnsInHanded {} Tryd.checked os 6 .any (fun w args => (Rows.shaPiecesSpec.pre enc Tryd.prog Tryd.f6 [] false w args ∧ laidMetH Tryd.prog [("pith/sha.first", Rows.laid_pith_sha_first), ("pith/sha.constants", Rows.laid_pith_sha_constants)] w) ∧ sizedMet enc Tryd.prog Tryd.f6 (OpenSpec.ofChange Rows.shaPiecesSpec) false w args)
      (Rows.shaPiecesSpec.post enc Tryd.prog Tryd.f6 false true false false) := by
  refine returnsInHanded_of_change_and (C := Tryd.checked) (X := fun w _ => laidMetH Tryd.prog [("pith/sha.first", Rows.laid_pith_sha_first), ("pith/sha.constants", Rows.laid_pith_sha_constants)] w) (fun _ _ _ hh h => h.of_heap hh) own started (by kernel_rfl) Tryd.func6
    (ChangeSpec.witness_shaped (enc := enc) (C := Tryd.checked) (os := os) (X := fun w _ => laidMetH Tryd.prog [("pith/sha.first", Rows.laid_pith_sha_first), ("pith/sha.constants", Rows.laid_pith_sha_constants)] w) false (World.doorLaid Tryd.prog 400 os) #[.slice none 0 0, .slice none 0 0] 8 rfl (World.shaped_of_RefB (by kernel_rfl) (by kernel_rfl)) (by kernel_rfl) (by kernel_rfl) (by kernel_rfl) (door_met os _)) ?_
  intro W base args ds gs before hval0 hW _ hsz0 hL _
  have hsz : (DataW.weightsEach Tryd.prog (Tryd.f6.params.toList ++ Rows.shaPiecesSpec.plain.varTypes Tryd.prog) (ds ++ gs)).all (· ≤ reachBytes) = true := hsz0
  clear hsz0
  have hT := tab_of_laid hL
  have hval : ∀ (j : Nat) t v, Tryd.f6.params[j]? = some t → args[j]? = some v → Value.okWide Tryd.prog W .any base t v := hval0
  have hW' := hW
  obtain ⟨p, q, hA0, hV, rfl, hfz, hnd⟩ := hW
  have hA : DataW.TrodAll enc Tryd.prog W 0 (fun _ => true) true Tryd.f6.params.toList args.toList ds p := hA0
  rw [Tryd.params6] at hA hval hsz
  obtain ⟨v0, vs0, d0, ds0, p0, q0, hargs, rfl, rfl, h0, r0⟩ := trodAll_cons hA
  obtain ⟨v1, vs1, d1, ds1, p1, q1, rfl, rfl, rfl, h1, r1⟩ := trodAll_cons r0
  obtain ⟨rfl, rfl, rfl⟩ := trodAll_nil r1
  obtain rfl : args = #[v0, v1] := by cases args; simp_all
  obtain ⟨rfl, rfl⟩ := trodVars_none hV
  obtain ⟨a0, len0, cap0, rfl⟩ := okWide_slice Tryd.underlying29 (hval 0 29 v0 rfl rfl)
  have k0 := h0
  have lt0 : ∀ x ∈ p0, x.block < W.heap.size := by obtain ⟨m, hm⟩ := k0; exact DataW.trod_lt m _ _ _ hm
  obtain ⟨xs0, hx0, hy0, hl0, hcap0⟩ := open8 h0 (fun elems spare e => by subst e; exact sized_slice hsz (j := 0) (t := 29) (e := 5) rfl rfl Tryd.underlying29)
  obtain ⟨a1, len1, cap1, rfl⟩ := okWide_slice Tryd.underlying38 (hval 1 38 v1 rfl rfl)
  have k1 := h1
  have lt1 : ∀ x ∈ p1, x.block < W.heap.size := by obtain ⟨m, hm⟩ := k1; exact DataW.trod_lt m _ _ _ hm
  have hx1 := open64 h1 (fun elems spare e => by subst e; exact sized_slice hsz (j := 1) (t := 38) (e := 3) rfl rfl Tryd.underlying38)
  clear hA0 hval0
  refine (walk a0 len0 cap0 xs0 a1 len1 cap1 W hT hx0 hy0 hl0 (by omega) hx1.1 hx1.2).mono fun e W' ⟨he, hCC⟩ => ?_
  subst he
  have bel := below_of hCC
  exact ⟨_, rfl, _, _, _, [], _, [], hW', trodAll_mk1 (shut_bool Tryd.underlying4 _), (trodAll_cons_mk (Below.trod laidOut (by kernel_rfl) (of_decide_eq_true (by kernel_rfl)) k0 bel lt0) (trodAll_cons_mk (Below.trod laidOut (by kernel_rfl) (of_decide_eq_true (by kernel_rfl)) k1 bel lt1) trodAll_mk0)), rfl, bel.frame _, fun h => by cases h⟩

theorem over : Rows.ShaPiecesSaid :=
  OpenClaim.holds_of_wide 6 Tryd.f6 rfl rfl rfl rfl rfl rfl rfl ⟨rfl, rfl, rfl, rfl, rfl⟩ rfl rfl rfl rfl rfl (by kernel_rfl) Tryd.func6 (by kernel_rfl)
    (of_decide_eq_true (by kernel_rfl)) (by unfold Func.isWrapper; first | (rw [if_pos (by decide +kernel)]; kernel_rfl) | (rw [if_neg (by decide +kernel)]; exact ⟨rfl, rfl⟩))
    (fun os started H enc _ => lifted os started H enc)

theorem card : Rows.ShaPiecesCardSaid :=
  Claim7.holds_tied_plain_at .later [] [.data, .data] true (true, "8b1ae774ebd725d4824cf407a67ed38f8bdfd295c11d528f2d51c47d3ae0cc53") false
    over (fun _ h => by cases h) (by kernel_rfl) (fun _ h => by cases h) shaPieces_row_tie rfl ⟨rfl, rfl⟩ (by kernel_rfl) rfl
    (fun f fn hf hfn => by
      obtain rfl : f = 6 := Option.some.inj ((show Tryd.prog.funcNamed "pith/pithlaw04.ShaPieces" = some 6 by kernel_rfl).symm.trans hf) |>.symm
      obtain rfl : fn = Tryd.f6 := (Option.some.inj (Tryd.func6.symm.trans hfn)).symm
      exact ⟨by kernel_rfl, fun j t ht => by
        rw [Tryd.params6] at ht
        have hm : t ∈ [29, 38] := by simpa using Array.mem_of_getElem? ht
        have hall : ([29, 38].all fun u => !Tryd.prog.wantsStandIn u) = true := by kernel_rfl
        exact (show Tryd.prog.wantsStandIn t = false by simpa using List.all_eq_true.1 hall t hm)⟩)
    (by kernel_rfl)
end Go.Proofs.YtnedllhlmddmoaaDoor.shaPieces
namespace Go.Proofs.YtnedllhlmddmoaaDoor
theorem shaPieces_holds : Rows.ShaPiecesCardSaid := shaPieces.card
#print axioms shaPieces_holds
end Go.Proofs.YtnedllhlmddmoaaDoor
