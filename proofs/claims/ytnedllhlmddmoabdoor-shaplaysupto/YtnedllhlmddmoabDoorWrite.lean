/- Bytes eaten ('Eat'), and the contract of Write; of no statement by themselves. -/
import Derived.Test.YtnedllhlmddmoabDoorPart
namespace Go.Proofs.YtnedllhlmddmoabDoor
open Go.RowKit
set_option linter.unusedVariables false

/-- A hash that began at the state s0, behind n0 bytes, and has eaten bs. -/
def Eat (w : World) (a : Nat) (s0 : List Nat) (n0 : Nat) (bs : List Nat) : Prop :=
  ∃ blk, Hs w a (Sha.eat s0 bs) blk (n0 + bs.length) ∧ Byt blk ∧ blk.take (bs.length % 64) = Sha.rest bs

theorem Eat.keep {w w' : World} {S : Nat → Prop} {a : Nat} {s0 bs : List Nat} {n0 : Nat} (h : Eat w a s0 n0 bs) (hc : Chg S w w') (hS : ¬ S a) : Eat w' a s0 n0 bs := by
  obtain ⟨blk, h1, h2, h3⟩ := h
  exact ⟨blk, h1.keep hc hS, h2, h3⟩
theorem Eat.new {w w' : World} {a : Nat} {s0 bs : List Nat} {n0 : Nat} (h : Eat w a s0 n0 bs) (hc : Chg (fun _ => False) w w') : Eat w' a s0 n0 bs := h.keep hc (fun f => f)

/-- What is left of a list in memory: none of it in the block a. -/
def Left (w : World) (a : Nat) (v : Value) (m : Nat) (xs : List Nat) : Prop :=
  ∃ ad c, v = .slice ad m c ∧ Row8 w ad m c (up xs) ∧ (0 < m → ∀ y, ad = some y → y.block ≠ a) ∧ m ≤ c

theorem row8_zero {w w' : World} {ad : Option Addr} {c : Nat} {xs : List Int} (h : Row8 w ad 0 c xs) : Row8 w' ad 0 c xs := by
  refine ⟨h.1, ?_⟩
  have e : xs = [] := List.eq_nil_of_length_eq_zero h.1
  subst e
  rcases h.2 with h | ⟨x, e, _⟩
  · exact .inl h
  · exact .inr ⟨x, e, fun j u hu => by cases hu⟩

theorem Left.keep {w w' : World} {a m : Nat} {v : Value} {xs : List Nat} (h : Left w a v m xs) (hc : Chg (fun k => k = a) w w') : Left w' a v m xs := by
  obtain ⟨ad, c, e, hr, hn, h1⟩ := h
  refine ⟨ad, c, e, ?_, hn, h1⟩
  by_cases h0 : 0 < m
  · exact row8_keep hr hc (hn h0)
  · obtain rfl : m = 0 := by omega
    exact row8_zero hr

theorem slice_8 (w : World) (y : Option Addr) (n c q : Nat) (hq : q ≤ n) : (Instr.slice 24 (.slice y n c) (some (.int .i64 (q : Int))) none none).run Tryd.prog w = .ok (.slice (if c = q then y else y.map (·.add q)) (n - q) (c - q)) w := by
  have h1 := run_slice_l (P := Tryd.prog) w 24 y n c Tryd.underlying24 .i64 (q : Int) (by omega) (by omega)
  have h3 : (sizeOf (Tryd.prog.elem 24)).run Tryd.prog w = .ok 1 w := by
    have h4 : Tryd.prog.elem 24 = 5 := by kernel_rfl
    have h5 : (Tryd.prog.info? 5).map (·.size) = some 1 := by kernel_rfl
    rw [h4]
    cases hq : Tryd.prog.info? 5 with
    | none => simp [hq] at h5
    | some i => simp [sizeOf, typeInfo, hq] at h5 ⊢; exact h5
  rw [h1, h3]
  simp only [Result.andThen_ok, sliced, Int.toNat_natCast, Nat.mul_one]

theorem slice_b64 (w : World) (a r : Nat) (hr : r < 64) : (Instr.sliceAt 54 (.pointer (some ⟨a, 8, none⟩)) (some (.int .i64 (r : Int))) none none).run Tryd.prog w = .ok (.slice (some ⟨a, 8 + r, none⟩) (64 - r) (64 - r)) w := by
  have h1 := run_sliceAt_array_l (P := Tryd.prog) w 54 ⟨a, 8, none⟩ Tryd.underlying54 .i64 (r : Int) (by omega) (by show (r : Int) ≤ ((64 : Nat) : Int); omega)
  have h2 : Tryd.prog.arrayLen 54 = 64 := by kernel_rfl
  have h3 : (sizeOf (Tryd.prog.elem 54)).run Tryd.prog w = .ok 1 w := by
    have h4 : Tryd.prog.elem 54 = 5 := by kernel_rfl
    have h5 : (Tryd.prog.info? 5).map (·.size) = some 1 := by kernel_rfl
    rw [h4]
    cases hq : Tryd.prog.info? 5 with
    | none => simp [hq] at h5
    | some i => simp [sizeOf, typeInfo, hq] at h5 ⊢; exact h5
  rw [h1, h3, h2]
  simp only [Result.andThen_ok, slicedAt, Int.toNat_natCast, Nat.mul_one, addk]
  rw [if_neg (by omega)]

theorem Left.cut {w : World} {a n c : Nat} {y : Option Addr} {xs : List Nat} (h : Left w a (.slice y n c) n xs) (q : Nat) (hq : q ≤ n) : Left w a (.slice (if c = q then y else y.map (·.add q)) (n - q) (c - q)) (n - q) (xs.drop q) := by
  obtain ⟨y', c', e, hr, hne, h1⟩ := h
  simp only [Value.slice.injEq, true_and] at e
  obtain ⟨rfl, rfl⟩ := e
  refine ⟨_, _, rfl, ?_, ?_, by omega⟩
  · have hl : xs.length = n := by rw [← up_length]; exact hr.1
    refine ⟨by rw [up_length, List.length_drop, hl], ?_⟩
    rcases hr.2 with ⟨rfl, rfl, rfl⟩ | ⟨x, rfl, hx⟩
    · exact .inl ⟨by simp, by omega, by omega⟩
    · by_cases e : c = q
      · rw [if_pos e]
        refine .inr ⟨x, rfl, fun j u hu => ?_⟩
        rw [up_drop, List.drop_of_length_le (by rw [up_length]; omega)] at hu
        cases hu
      · rw [if_neg e]
        refine .inr ⟨x.add q, rfl, fun j u hu => ?_⟩
        rw [up_drop, List.map_drop, List.getElem?_drop] at hu
        have := hx (q + j) u hu
        rw [← this]
        congr 1
        unfold Addr.add
        by_cases h1 : q = 0
        · subst h1; simp
        · by_cases h2 : j = 0
          · subst h2; simp [h1]
          · simp [h1, h2, Nat.add_assoc]
  · intro h0 z hz
    have hne := hne (by omega)
    by_cases e : c = q
    · rw [if_pos e] at hz
      exact hne z hz
    · rw [if_neg e] at hz
      cases y with
      | none => cases hz
      | some x =>
        simp only [Option.map_some, Option.some.injEq] at hz
        subst hz
        have hb : (x.add q).block = x.block := by simp [Addr.add]; split <;> rfl
        rw [hb]
        exact hne x rfl

set_option maxHeartbeats 4000000 in
set_option maxRecDepth 100000 in
theorem write_any (a : Nat) (s0 : List Nat) (n0 : Nat) (bs xs : List Nat) (ad : Option Addr) (m c : Nat) (wa : World) (hT : Tab wa) (ha : 2 ≤ a) (hs : Sha.St s0) (hn0 : n0 % 64 = 0) (hE : Eat wa a s0 n0 bs) (hr : Row8 wa ad m c (up xs)) (hb : Byt xs)
    (hne : 0 < m → ∀ y, ad = some y → y.block ≠ a) (hN : n0 + bs.length + m < 4611686018427387904) (hmc : m ≤ c) :
    Calls Tryd.prog 13 #[.pointer (some ⟨a, 0, none⟩), .slice ad m c] wa fun e w' => e = .returned (.tuple #[]) ∧ Eat w' a s0 n0 (bs ++ xs) ∧ Chg (fun k => k = a) wa w' := by
  have hlx : xs.length = m := by rw [← up_length]; exact hr.1
  go_enter Tryd.func13, Tryd.ntmps13
  go_wp2_with fail
  go_loopw [1] (fun v wr => ∃ k : Nat, k ≤ m ∧ Left wr a v (m - k) (xs.drop k) ∧ Eat wr a s0 n0 (bs ++ xs.take k) ∧ Chg (fun k => k = a) wa wr) (fun v _ => match v with | .slice _ l _ => l | _ => 0)
  case atStart => exact ⟨0, by omega, ⟨ad, c, rfl, by simpa using hr, hne, hmc⟩, by simpa using hE, Chg.refl _ _⟩
  case round =>
    clear hE hr hne hmc
    obtain ⟨k, hk, ⟨ad, c, rfl, hr, hne, hmc⟩, hE, hC⟩ := hrel
    by_cases hlt : k < m
    · obtain ⟨y, rfl, hy⟩ : ∃ y, ad = some y ∧ ∀ j u, ((up (xs.drop k)).map (Value.int .u8))[j]? = some u → wr.cell? (y.add j) = some u := by
        rcases hr.2 with ⟨_, h0, _⟩ | h
        · omega
        · exact h
      obtain ⟨blk, hH, hbb, hrest⟩ := hE
      have hsz := hH.size
      have hlb : (bs ++ xs.take k).length = bs.length + k := by simp; omega
      have hmod : (n0 + (bs ++ xs.take k).length) % 64 = (bs ++ xs.take k).length % 64 := by omega
      have hNb : n0 + (bs ++ xs.take k).length + (m - k) < 4611686018427387904 := by omega
      have hld : (xs.drop k).length = m - k := by rw [List.length_drop, hlx]
      generalize hzs : xs.drop k = zs at *
      generalize hL : bs ++ xs.take k = L at *
      have hr64 : L.length % 64 < 64 := Nat.mod_lt _ (by omega)
      generalize hN2 : n0 + L.length = N at *
      have hsrc : ∀ j v, (byts (zs.take (min (m - k) (64 - L.length % 64))))[j]? = some v → wr.cell? (y.add j) = some v := by
        intro j v hv
        refine hy j v ?_
        rw [up_byts]
        simp only [byts, List.getElem?_map, List.getElem?_take] at hv ⊢
        split at hv
        · exact hv
        · simp at hv
      have hcl : (byts (zs.take (min (m - k) (64 - L.length % 64)))).length = Nat.min (m - k) (64 - L.length % 64) := by
        rw [byts_len, List.length_take, hld]
        exact Nat.min_eq_left (Nat.min_le_left _ _)
      have hmod2 : N % 64 = L.length % 64 := hmod
      generalize hR : L.length % 64 = r at *
      clear hmod
      have htm : (N : Int).tmod 64 = (r : Int) := by rw [Int.tmod_eq_emod_of_nonneg (by omega)]; omega
      have hsl := slice_b64 wr.drew a r hr64
      have hfit : 8 + r + (byts (zs.take (min (m - k) (64 - r)))).length ≤ (hcells (Sha.eat s0 L) blk N).length := by
        rw [hcl, hcells_len hH.s8 hH.b64]
        have : Nat.min (m - k) (64 - r) ≤ 64 - r := Nat.min_le_right _ _
        omega
      go_wp2_with fail
      go_region_law (refine step_copy_at rfl (.tmp 16) (.tmp 17) 24 24 rfl 5 Tryd.underlying24 (by kernel_rfl) a (8 + r) (64 - r) (64 - r) y (m - k) c rfl rfl (hcells (Sha.eat s0 L) blk N) 56 hH.blk (byts (zs.take (min (m - k) (64 - r)))) hcl hsrc hfit (byts_ones _) ?_; intro w2 HB2 HC2)
      have hH2 : Hs w2 a (Sha.eat s0 L) (blk.take r ++ zs.take (min (m - k) (64 - r)) ++ blk.drop (r + (zs.take (min (m - k) (64 - r))).length)) N := by
        have hl3 : r + (zs.take (min (m - k) (64 - r))).length ≤ 64 := by
          rw [List.length_take]
          have : min (m - k) (64 - r) ≤ 64 - r := Nat.min_le_right _ _
          omega
        refine ⟨?_, hH.s8, ?_⟩
        · rw [← hcells_copy hH.s8 hH.b64 hl3]
          exact HB2.out
        · have := hH.b64
          simp only [List.length_append, List.length_take, List.length_drop] at hl3 ⊢
          omega
      have hC2 : Chg (fun k => k = a) wa w2 := hC.trans (T := fun k => k = a) ((Chg.refl _ wr).drew.trans HC2.out (fun _ e => .inl e)) (fun _ e => .inl e)
      have hL2 : Left w2 a (.slice (some y) (m - k) c) (m - k) zs := (show Left wr a _ _ _ from ⟨some y, c, rfl, hr, hne, hmc⟩).keep ((Chg.refl _ wr).drew.trans HC2.out (fun _ e => .inl e))
      have hq0 : 0 < Nat.min (m - k) (64 - r) := by have : 0 < m - k := by omega
                                                    have h2 : 0 < 64 - r := by omega
                                                    exact Nat.lt_min.2 ⟨this, h2⟩
      have hq1 : Nat.min (m - k) (64 - r) ≤ m - k := Nat.min_le_left _ _
      have hq2 : Nat.min (m - k) (64 - r) ≤ 64 - r := Nat.min_le_right _ _
      have hq3 : Nat.min (m - k) (64 - r) = m - k ∨ Nat.min (m - k) (64 - r) = 64 - r := by
        rcases Nat.le_total (m - k) (64 - r) with h | h
        · exact .inl (Nat.min_eq_left h)
        · exact .inr (Nat.min_eq_right h)
      have hlt2 : (zs.take (min (m - k) (64 - r))).length = Nat.min (m - k) (64 - r) := by rw [← byts_len]; exact hcl
      have hm1 : min (m - k) (64 - r) = Nat.min (m - k) (64 - r) := rfl
      rw [hm1] at hH2 hlt2
      clear HB2 HC2 hsl hfit hsrc hcl hm1 htm hsz hH hy hr
      generalize Nat.min (m - k) (64 - r) = q at *
      have hsz2 := hH2.size
      have hfr2 := hH2.free 72
      have hH3 := hH2.sized (N + q)
      have hsz3 := hH3.size
      have hC3 : Chg (fun k => k = a) wa (w2.setCell ⟨a, 72, none⟩ (.int .i64 ((N + q : Nat) : Int))) := hC2.setCell (.inl rfl) _
      have hL3 := hL2.keep ((Chg.refl (fun k => k = a) w2).setCell (p := ⟨a, 72, none⟩) (.inl rfl) (.int .i64 ((N + q : Nat) : Int)))
      rw [hlt2] at hH3
      have HH : Hid (Hs (w2.setCell ⟨a, 72, none⟩ (.int .i64 ((N + q : Nat) : Int))) a (Sha.eat s0 L) (blk.take r ++ zs.take q ++ blk.drop (r + q)) (N + q)) := hH3
      have HC : Hid (Chg (fun k => k = a) wa (w2.setCell ⟨a, 72, none⟩ (.int .i64 ((N + q : Nat) : Int)))) := hC3
      have HL : Hid (Left (w2.setCell ⟨a, 72, none⟩ (.int .i64 ((N + q : Nat) : Int))) a (.slice (some y) (m - k) c) (m - k) zs) := hL3
      have hadd : (N : Int) + (q : Int) = ((N + q : Nat) : Int) := by omega
      have hsl2 := slice_8 w2 (some y) (m - k) c q hq1
      have hsl3 : (Instr.sliceAt 24 (.slice (some y) (m - k) c) (some (.int .i64 (q : Int))) none none).run Tryd.prog w2 = _ := (run_sliceAt_slice (P := Tryd.prog) w2 24 _ _ _ _ Tryd.underlying24).trans hsl2
      have HL4 : Hid (Left (w2.setCell ⟨a, 72, none⟩ (.int .i64 ((N + q : Nat) : Int))) a (.slice (if c = q then some y else (some y).map (·.add q)) (m - k - q) (c - q)) (m - k - q) (zs.drop q)) := HL.out.cut q hq1
      clear HL hmc hne
      generalize (if c = q then some y else (some y).map (·.add q)) = y' at *
      clear hH2 hC2 hL2 hH3 hC3 hL3 hC
      by_cases hfull : r + q = 64
      · have h0 : ((N + q : Nat) : Int) % 64 = 0 := by omega
        generalize hN3 : N + q = N' at *
        go_wp2_with fail
        generalize w2.setCell ⟨a, 72, none⟩ (.int .i64 (N' : Int)) = w3 at *
        have hB3 : (blk.take r ++ zs.take q ++ blk.drop (r + q)).length = 64 := HH.out.b64
        have hBy : Byt (blk.take r ++ zs.take q ++ blk.drop (r + q)) := ((hbb.take r).append ((by rw [← hzs]; exact (hb.drop k) : Byt zs).take q)).append (hbb.drop _)
        have hT3 : Tab w3 := hT.at HC.out ha
        have hst := Sha.eat_st hs L
        have HF : Hid (Sha.eat s0 (L ++ zs.take q) = Sha.step (Sha.eat s0 L) (blk.take r ++ zs.take q ++ blk.drop (r + q))) := by
          show _ = _
          rw [Sha.eat_full s0 L (zs.take q) (by omega), hrest, List.drop_of_length_le (by have := HH.out.b64; simp at this; omega), List.append_nil]
        generalize blk.take r ++ zs.take q ++ blk.drop (r + q) = B at *
        have hS4 := HH.out
        clear hsz3 hsz2 hfr2 h0 hadd
        refine wp_region_last (mk := fun u => #[_, _, _, _, _, _, _, _, _, _, _, _, _, _, _, _, _, _, _, _, _, _, _, _, _, _, _, _, _, _, _, _, _, _, _, _, u 36, u 37, u 38, u 39, u 40, u 41, u 42, u 43, u 44, u 45, u 46, u 47]) (F := fun slot vv ww => (look [(36, .val (.pointer (some ⟨a, 0, none⟩))), (37, .val (.pointer (some ⟨a, 0, none⟩))), (38, .val (.pointer (some ⟨a, 0, none⟩))), (39, .val (.pointer (some ⟨a, 0, none⟩))), (40, .val (.agg (wds (Sha.eat s0 L)).toArray)), (41, .val (.pointer (some ⟨a, 0, none⟩))), (42, .val (.pointer (some ⟨a, 0, none⟩))), (43, .val (.pointer (some ⟨a, 8, none⟩))), (44, .val (.agg (byts B).toArray)), (45, .val (.agg (wds (Sha.step (Sha.eat s0 L) B)).toArray)), (46, .val (.pointer (some ⟨a, 0, none⟩))), (47, .val (.pointer (some ⟨a, 0, none⟩)))] slot).holds vv ww) (fun t => if t = 36 then u36 else if t = 37 then u37 else if t = 38 then u38 else if t = 39 then u39 else if t = 40 then u40 else if t = 41 then u41 else if t = 42 then u42 else if t = 43 then u43 else if t = 44 then u44 else if t = 45 then u45 else if t = 46 then u46 else if t = 47 then u47 else undef) rfl (by kernel_rfl) 12 _ rfl rfl (by kernel_rfl) ?_ (fun _ v w w' hc h => Fact.stays _ v w w' hc h) ?_ ?_
        · repeat (refine ⟨⟨_, rfl, fun _ _ => rfl⟩, ?_⟩)
          exact trivial
        · refine ⟨?_, ?_, ?_, ?_, ?_, ?_, ?_, ?_, ?_, ?_, ?_, ?_, trivial⟩
          · intro u w hc hd K hK -- 36
            clear hd
            go_simp
            exact hK.out (.pointer (some ⟨a, 0, none⟩)) w (Chg.refl _ _) rfl
          · intro u w hc hd K hK -- 37
            clear hd
            go_simp
            exact hK.out (.pointer (some ⟨a, 0, none⟩)) w (Chg.refl _ _) rfl
          · intro u w hc hd K hK -- 38
            have h37 : (Fact.val (.pointer (some ⟨a, 0, none⟩))).holds (u 37) w := hd.get 1 (by kernel_rfl)
            simp only [Fact.holds] at h37
            clear hd
            simp only [h37] at hK
            go_simp
            exact hK.out (.pointer (some ⟨a, 0, none⟩)) w (Chg.refl _ _) rfl
          · intro u w hc hd K hK -- 39
            have h38 : (Fact.val (.pointer (some ⟨a, 0, none⟩))).holds (u 38) w := hd.get 2 (by kernel_rfl)
            simp only [Fact.holds] at h38
            clear hd
            simp only [h38] at hK
            go_simp
            exact hK.out (.pointer (some ⟨a, 0, none⟩)) w (Chg.refl _ _) rfl
          · intro u w hc hd K hK -- 40
            have h39 : (Fact.val (.pointer (some ⟨a, 0, none⟩))).holds (u 39) w := hd.get 3 (by kernel_rfl)
            simp only [Fact.holds] at h39
            clear hd
            show Oper.wp Tryd.prog _ _ w K _
            exact wp_load_part 45 (.tmp 39) rfl _ h39 (wds (Sha.eat s0 L)) _ (hS4.new hc).state Tryd.underlying45 rfl (by rw [wds_len, hst.len]; exact infoA8) (hK.out _ _ (Chg.refl _ _) rfl)
          · intro u w hc hd K hK -- 41
            clear hd
            go_simp
            exact hK.out (.pointer (some ⟨a, 0, none⟩)) w (Chg.refl _ _) rfl
          · intro u w hc hd K hK -- 42
            have h41 : (Fact.val (.pointer (some ⟨a, 0, none⟩))).holds (u 41) w := hd.get 5 (by kernel_rfl)
            simp only [Fact.holds] at h41
            clear hd
            simp only [h41] at hK
            go_simp
            exact hK.out (.pointer (some ⟨a, 0, none⟩)) w (Chg.refl _ _) rfl
          · intro u w hc hd K hK -- 43
            have h42 : (Fact.val (.pointer (some ⟨a, 0, none⟩))).holds (u 42) w := hd.get 6 (by kernel_rfl)
            simp only [Fact.holds] at h42
            clear hd
            simp only [h42] at hK
            go_simp
            exact hK.out (.pointer (some ⟨a, 8, none⟩)) w (Chg.refl _ _) rfl
          · intro u w hc hd K hK -- 44
            have h43 : (Fact.val (.pointer (some ⟨a, 8, none⟩))).holds (u 43) w := hd.get 7 (by kernel_rfl)
            simp only [Fact.holds] at h43
            clear hd
            show Oper.wp Tryd.prog _ _ w K _
            exact wp_load_part 54 (.tmp 43) rfl _ h43 (byts B) _ (hS4.new hc).block Tryd.underlying54 rfl (by rw [byts_len, hB3]; exact infoB64) (hK.out _ _ (Chg.refl _ _) rfl)
          · intro u w hc hd K hK -- 45
            have h40 : (Fact.val (.agg (wds (Sha.eat s0 L)).toArray)).holds (u 40) w := hd.get 4 (by kernel_rfl)
            simp only [Fact.holds] at h40
            have h44 : (Fact.val (.agg (byts B).toArray)).holds (u 44) w := hd.get 8 (by kernel_rfl)
            simp only [Fact.holds] at h44
            clear hd
            simp only [h40, h44] at hK
            go_simp
            go_at_call 20
            refine (step_any (Sha.eat s0 L) B w (hT3.k.new hc) hst hB3 hBy).mono ?_
            rintro e w1 ⟨rfl, hc1⟩
            exact hK.out _ _ hc1 rfl
          · intro u w hc hd K hK -- 46
            have h36 : (Fact.val (.pointer (some ⟨a, 0, none⟩))).holds (u 36) w := hd.get 0 (by kernel_rfl)
            simp only [Fact.holds] at h36
            clear hd
            simp only [h36] at hK
            go_simp
            exact hK.out (.pointer (some ⟨a, 0, none⟩)) w (Chg.refl _ _) rfl
          · intro u w hc hd K hK -- 47
            have h46 : (Fact.val (.pointer (some ⟨a, 0, none⟩))).holds (u 46) w := hd.get 10 (by kernel_rfl)
            simp only [Fact.holds] at h46
            clear hd
            simp only [h46] at hK
            go_simp
            exact hK.out (.pointer (some ⟨a, 0, none⟩)) w (Chg.refl _ _) rfl
        · intro u w hc hA K hK
          have a47 : u 47 = _ := hA.at 47 (by kernel_rfl)
          have a45 : u 45 = _ := hA.at 45 (by kernel_rfl)
          clear hA
          have hSw := hS4.new hc
          have hCw : Chg (fun k => k = a) wa w := HC.out.trans (T := fun _ => False) hc (fun _ f => f.elim)
          have hLw := HL4.out.keep (hc.mono (fun _ f => f.elim))
          show Oper.wp Tryd.prog _ _ w K _
          refine wp_store_part 45 (.tmp 47) (.tmp 45) rfl a 0 (wds (Sha.step (Sha.eat s0 L) B)) a47 a45 56 _ hSw.blk ?_ ?_ (wds_ones _) ?_
          · rw [wds_len, (Sha.step_st _ _).len]; exact infoA8
          · rw [wds_len, (Sha.step_st _ _).len]
            have := hcells_len (n := N') hSw.s8 hSw.b64
            simp only [List.size_toArray]
            omega
          refine hK.out _ _ ?_
          have hS5 : Hs (w.setRow a ((hcells (Sha.eat s0 L) B N').toArray.toList.take 0 ++ wds (Sha.step (Sha.eat s0 L) B) ++ (hcells (Sha.eat s0 L) B N').toArray.toList.drop (0 + (wds (Sha.step (Sha.eat s0 L) B)).length)).toArray) a (Sha.step (Sha.eat s0 L) B) B N' := by
            refine ⟨?_, (Sha.step_st _ _).len, hSw.b64⟩
            rw [setRow_heap _ _ _ _ _ _ hSw.blk, List.toList_toArray, hcells_state hSw.s8 (Sha.step_st _ _).len]
          have hC5 := hCw.trans (chg_setRow w a ((hcells (Sha.eat s0 L) B N').toArray.toList.take 0 ++ wds (Sha.step (Sha.eat s0 L) B) ++ (hcells (Sha.eat s0 L) B N').toArray.toList.drop (0 + (wds (Sha.step (Sha.eat s0 L) B)).length)).toArray) (fun _ e => .inl e)
          have hL5 := hLw.keep (chg_setRow w a ((hcells (Sha.eat s0 L) B N').toArray.toList.take 0 ++ wds (Sha.step (Sha.eat s0 L) B) ++ (hcells (Sha.eat s0 L) B N').toArray.toList.drop (0 + (wds (Sha.step (Sha.eat s0 L) B)).length)).toArray)
          generalize w.setRow a ((hcells (Sha.eat s0 L) B N').toArray.toList.take 0 ++ wds (Sha.step (Sha.eat s0 L) B) ++ (hcells (Sha.eat s0 L) B N').toArray.toList.drop (0 + (wds (Sha.step (Sha.eat s0 L) B)).length)).toArray = w5 at *
          have HE5 : Hid (Eat w5 a s0 n0 (bs ++ xs.take (k + q))) := by
            show Eat _ _ _ _ _
            have e1 : bs ++ xs.take (k + q) = L ++ zs.take q := by rw [← hL, ← hzs, List.append_assoc, ← List.take_add]
            have e2 : (L ++ zs.take q).length = L.length + q := by rw [List.length_append, hlt2]
            rw [e1]
            refine ⟨B, ?_, hBy, ?_⟩
            · rw [HF.out, e2, show n0 + (L.length + q) = N' by omega]
              exact hS5
            · rw [Sha.rest_full L (zs.take q) (by omega), e2, show (L.length + q) % 64 = 0 by omega, List.take_zero]
          have HC5 : Hid (Chg (fun k => k = a) wa w5) := hC5
          have HL5 : Hid (Left w5 a (.slice y' (m - k - q) (c - q)) (m - (k + q)) (xs.drop (k + q))) := by
            show Left _ _ _ _ _
            rw [← Nat.sub_sub, ← List.drop_drop, hzs]
            exact hL5
          clear hS5 hC5 hL5 hSw hCw hLw hK hS4 a47 a45 hc HH HC HL4 hsl2 hsl3 hst
          go_simp
          go_wp2
          go_roundw
          case rel => exact ⟨k + q, by omega, HL5.out, HE5.out, HC5.out⟩
          case measure => show m - k - q < m - k; omega
      · have h0 : ¬ ((N + q : Nat) : Int) % 64 = 0 := by omega
        have HE5 : Hid (Eat (w2.setCell ⟨a, 72, none⟩ (.int .i64 ((N + q : Nat) : Int))) a s0 n0 (bs ++ xs.take (k + q))) := by
          show Eat _ _ _ _ _
          have e1 : bs ++ xs.take (k + q) = L ++ zs.take q := by rw [← hL, ← hzs, List.append_assoc, ← List.take_add]
          have e2 : (L ++ zs.take q).length = L.length + q := by rw [List.length_append, hlt2]
          have hb64 : blk.length = 64 := by
            have := HH.out.b64
            simp only [List.length_append, List.length_take, List.length_drop] at this hlt2
            omega
          rw [e1]
          refine ⟨blk.take r ++ zs.take q ++ blk.drop (r + q), ?_, ((hbb.take r).append ((by rw [← hzs]; exact (hb.drop k) : Byt zs).take q)).append (hbb.drop _), ?_⟩
          · rw [Sha.eat_less s0 L (zs.take q) (by omega), e2, show n0 + (L.length + q) = N + q by omega]
            exact HH.out
          · rw [Sha.rest_less L (zs.take q) (by omega), e2, show (L.length + q) % 64 = r + q by omega, ← hrest]
            rw [List.take_left' (by rw [List.length_append, hlt2, List.length_take]; omega)]
        have HL5 : Hid (Left (w2.setCell ⟨a, 72, none⟩ (.int .i64 ((N + q : Nat) : Int))) a (.slice y' (m - k - q) (c - q)) (m - (k + q)) (xs.drop (k + q))) := by
          show Left _ _ _ _ _
          rw [← Nat.sub_sub, ← List.drop_drop, hzs]
          exact HL4.out
        generalize hN3 : N + q = N' at *
        clear HH HL4
        go_wp2
        go_roundw
        case rel => exact ⟨k + q, by omega, HL5.out, HE5.out, HC.out⟩
        case measure => show m - k - q < m - k; omega
    · have e0 : m - k = 0 := by omega
      have hE5 : Eat wr a s0 n0 (bs ++ xs) := by
        rw [List.take_of_length_le (by omega)] at hE
        exact hE
      rw [e0]
      clear hr hne hE
      go_wp2
      (try simp only [Exit.inBlock, Exit.then])
      refine bodyPost_end (results_none rfl _ _ _) rfl ?_
      exact ⟨rfl, hE5, hC⟩
end Go.Proofs.YtnedllhlmddmoabDoor
