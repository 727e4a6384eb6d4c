/- The document's filter; lists that are lent; of no statement by themselves. -/
import Derived.Test.YtefplppgkoanbaaDu
import Derived.Test.YtefplppgkoanbaaDp
import Derived.Test.YtefplppgkoanbaaRt
import Derived.BigQuiet
import Derived.BigRegion
import Derived.Deep.QuietTactic
namespace Go.Proofs.Ytefplppgkoanbaa
open Go.RowKit
set_option linter.unusedVariables false
set_option linter.unusedSimpArgs false
theorem cells3c {w : World} {a : Nat} {x y z : Value} {t : TypeId} (h : w.heap[a]? = some (.cells #[x, y, z] t (0, 0))) : w.cell? ⟨a, 0, none⟩ = some x ∧ w.cell? ⟨a, 1, none⟩ = some y ∧ w.cell? ⟨a, 2, none⟩ = some z :=
  ⟨by simp [World.cell?, h], by simp [World.cell?, h], by simp [World.cell?, h]⟩
/-- The document's filter in memory. -/
structure Rf19 (w : World) (B r : Nat) (d : Int) (back : Bool) (u : Value) (all : List Nat) : Prop where
  lo : B ≤ r
  blk : w.heap[r]? = some (.cells #[.int .i64 d, .bool back, u] 41 (0, 0))
  own : ByO w B u all
theorem Rf19.ne {w : World} {B r : Nat} {d : Int} {back : Bool} {u : Value} {all : List Nat} (h : Rf19 w B r d back u all) : u.ownBlock ≠ some r := fun e => by
  obtain ⟨c1, h1⟩ := ownsRow_blk h.own e
  exact ty_ne h1 h.blk (by decide)
theorem Rf19.keep {w w' : World} {B r : Nat} {d : Int} {back : Bool} {u : Value} {all : List Nat} {S : Nat → Prop} (h : Rf19 w B r d back u all) (hc : Chg S w w') (h1 : ¬ S r) (h2 : ∀ g, u.ownBlock = some g → ¬ S g) : Rf19 w' B r d back u all :=
  ⟨h.lo, blk_keep h.blk hc h1, ownsRow_keep h.own hc h2⟩
set_option maxHeartbeats 8000000 in
set_option maxRecDepth 100000 in
theorem rnext19_any (B r d : Nat) (back : Bool) (u : Value) (all bs : List Nat) (ad : Option Addr) (n c : Nat) (w : World) (h : Rf19 w B r (d : Int) back u all) (hB : B ≤ w.heap.size) (hr : Row8 w ad n c (nums bs)) (hg : Rc.Dig bs) (hga : Rc.Dig all) (hd : goodD (d : Int)) (hn : all.length + n ≤ 140737488355328) :
    Calls Try.prog 16 #[.pointer (some ⟨r, 0, none⟩), .slice ad n c] w fun e w' => ∃ oa on oc u', e = .returned (.slice oa on oc) ∧ Row8 w' oa on oc (nums (De19.piece back d all bs)) ∧ Rf19 w' B r (d : Int) back u' (all ++ bs) ∧ Chg (fun z => z = r ∨ u.ownBlock = some z) w w' ∧ Moved w u u' := by
  obtain ⟨iu, hiu, hu0, hu1, hu2⟩ := info_parts info5u
  have hbl : bs.length = n := by have h9 := hr.1; rw [nums_len] at h9; exact h9
  obtain ⟨ua0, uc0, hu⟩ := byO_form h.own
  obtain ⟨k0, k1, k2⟩ := cells3c h.blk
  rw [hu] at k2
  have hown : w.ownsRow B 5 1 u all.length ((nums all).map (Value.int .u8)) := h.own
  rw [hu] at hown
  have HH : Hid (Rf19 w B r (d : Int) back u all) := h
  have HU : Hid (u = .slice ua0 all.length uc0) := hu
  have HGD : Hid (goodD (d : Int)) := hd
  have HDG : Hid (Rc.Dig (all ++ bs)) := fun x hx => by
    rcases List.mem_append.1 hx with e | e
    · exact hga x e
    · exact hg x e
  have HBL : Hid (bs.length = n) := hbl
  have hL : all.length + n ≤ 140737488355328 := hn
  obtain ⟨A, hA⟩ : ∃ A, all.length = A := ⟨_, rfl⟩
  rw [hA] at k2 hown hL HU
  have HA : Hid (all.length = A) := hA
  clear h hu hd hga hg hbl hA hn
  go_enter Try.func16, Try.ntmps16
  go_wp2_with (at_builtin; refine wpList_append_moved rfl (.tmp 17) (.tmp 18) 22 rfl B 5 iu (.int .u8 0) 1 1 Try.underlying22 hiu hu0 hu1 hu2 rfl (by decide) _ A ((nums all).map (Value.int .u8)) rfl ad n c rfl ((nums bs).map (Value.int .u8)) hown hr.src (oneB bs) (by unfold maxLen; omega) (by omega) hB ?_)
  intro v1 w1 ho1 hg1 hm1
  have hby := byO_app ho1
  have hC1 : Chg (fun z => z = r ∨ u.ownBlock = some z) w w1 := (Chg.refl _ w).grown hg1 (fun z e => .inl (.inr (by rw [HU.out]; exact e)))
  have hb1 : w1.heap[r]? = some (.cells #[.int .i64 (d : Int), .bool back, .slice ua0 A uc0] 41 (0, 0)) := by
    have := blk_keep HH.out.blk ((Chg.refl (fun z => u.ownBlock = some z) w).grown hg1 (fun z e => .inl (by rw [HU.out]; exact e))) HH.out.ne
    rw [HU.out] at this
    exact this
  obtain ⟨ua, uc, rfl⟩ := form1 ho1
  obtain ⟨y0, y1, y2⟩ := cells3c hb1
  have fz : w1.frozen? ⟨r, 2, none⟩ = false := by simp [World.frozen?, hb1]
  have hb2 : (w1.setCell ⟨r, 2, none⟩ (.slice ua (A + n) uc)).heap[r]? = some (.cells #[.int .i64 (d : Int), .bool back, .slice ua (A + n) uc] 41 (0, 0)) := blk_setk (l := [.int .i64 (d : Int), .bool back, .slice ua0 A uc0]) hb1 2 _
  have cS : Chg (fun z => z = r) w1 (w1.setCell ⟨r, 2, none⟩ (.slice ua (A + n) uc)) := Chg.setCell (S := fun z => z = r) (Chg.refl _ w1) (p := ⟨r, 2, none⟩) (.inl rfl) _
  have HB : Hid _ := hb2
  have hby2 : ByO (w1.setCell ⟨r, 2, none⟩ (.slice ua (A + n) uc)) B (.slice ua (A + n) uc) (all ++ bs) := ownsRow_keep hby cS (fun g e f => by
    subst f
    obtain ⟨c1, h1⟩ := ownsRow_blk hby e
    exact ty_ne h1 hb1 (by decide))
  have HBY : Hid (ByO (w1.setCell ⟨r, 2, none⟩ (.slice ua (A + n) uc)) B (.slice ua (A + n) uc) (all ++ bs)) := hby2
  have HC : Hid (Chg (fun z => z = r ∨ u.ownBlock = some z) w (w1.setCell ⟨r, 2, none⟩ (.slice ua (A + n) uc))) := hC1.trans cS (fun z e => .inl (.inl e))
  have HM : Hid (Moved w u (.slice ua (A + n) uc)) := by rw [HU.out]; exact hm1
  clear ho1 hg1 hm1 hby hC1 hb1 hb2 cS hby2 k0 k1 k2 hown hr
  go_upto_region 3 with fail
  generalize w1.setCell ⟨r, 2, none⟩ (.slice ua (A + n) uc) = W0 at *
  clear y0 y1 y2 fz
  obtain ⟨m, hmE⟩ : ∃ m, A + n = m := ⟨_, rfl⟩
  rw [hmE] at HB HBY HM hL ⊢
  have HCD : Hid (∀ ww, Chg (fun _ => False) W0 ww → Calls Try.prog 21 #[.slice ua m uc, .int .i64 (d : Int), .bool back] ww fun e w' => ∃ ov, e = .returned (.tuple #[ov, .int .i64 0]) ∧ ByO w' ww.heap.size ov (De19.cd back d (all ++ bs)) ∧ Chg (fun _ => False) ww w') := fun ww hw => by
    have h9 := rcode_any ua m uc (all ++ bs) (d : Int) back ⟨by have := HGD.out.1; omega, by have := HGD.out.2; omega⟩ ww (byO_row (HBY.out.new hw)).1 HDG.out hL
    rw [codeA_good HGD.out] at h9
    exact h9
  refine wp_region_setM (mk := fun u => #[_, _, _, _, _, _, u 6, _, _, _, _, _, _, _, _, _, _, _, _, _, _, _, u 22, u 23, u 24, u 25, u 26, u 27, u 28, u 29, u 30, u 31, u 32, u 33, u 34, u 35, u 36, u 37, _, _, _]) (G := lookG [(23, .pointer (some ⟨r, 0, none⟩)), (24, .pointer (some ⟨r, 0, none⟩)), (25, .pointer (some ⟨r, 2, none⟩)), (26, .slice ua m uc), (27, .pointer (some ⟨r, 0, none⟩)), (28, .pointer (some ⟨r, 0, none⟩)), (29, .pointer (some ⟨r, 0, none⟩)), (30, .int .i64 (d : Int)), (31, .pointer (some ⟨r, 0, none⟩)), (32, .pointer (some ⟨r, 0, none⟩)), (33, .pointer (some ⟨r, 1, none⟩)), (34, .bool back)]) (J := fun L_ u ww => Chg (fun _ => False) W0 ww ∧ ((L_ 12 = false ∧ L_ 13 = false ∧ L_ 14 = false ∧ L_ 15 = false ∧ L_ 16 = false ∧ Chg (fun _ => False) W0 ww) ∨ (L_ 12 = true ∧ ∃ ov, u 35 = .tuple #[ov, .int .i64 0] ∧ (L_ 13 = true → u 22 = .tuple #[ov, .int .i64 0]) ∧ (L_ 14 = true → u 36 = ov) ∧ (L_ 15 = true → u 37 = .int .i64 0) ∧ (L_ 16 = true → u 6 = ov) ∧ (ByO ww W0.heap.size ov (De19.cd back d (all ++ bs)))))) [12, 13, 14, 15, 16] ([]) (fun _ => undef) rfl (by kernel_rfl) 17 _ rfl rfl (by kernel_rfl) (by kernel_rfl) ?_ ?_ ?_ ?_ ?_
  · repeat (refine ⟨fun _ _ => rfl, ?_⟩)
    exact trivial
  · intro L_ L2 u u2 ww h hj
    have l12_ : L_ 12 = L2 12 := (h 12 (by decide)).1
    have e12_ : u 35 = u2 35 := (h 12 (by decide)).2
    have l13_ : L_ 13 = L2 13 := (h 13 (by decide)).1
    have e13_ : u 22 = u2 22 := (h 13 (by decide)).2
    have l14_ : L_ 14 = L2 14 := (h 14 (by decide)).1
    have e14_ : u 36 = u2 36 := (h 14 (by decide)).2
    have l15_ : L_ 15 = L2 15 := (h 15 (by decide)).1
    have e15_ : u 37 = u2 37 := (h 15 (by decide)).2
    have l16_ : L_ 16 = L2 16 := (h 16 (by decide)).1
    have e16_ : u 6 = u2 6 := (h 16 (by decide)).2
    show _ ∧ _
    rw [← l12_, ← e12_, ← l13_, ← e13_, ← l14_, ← e14_, ← l15_, ← e15_, ← l16_, ← e16_]
    exact hj
  · exact ⟨(Chg.refl _ W0).drew, .inl ⟨rfl, rfl, rfl, rfl, rfl, (Chg.refl _ W0).drew⟩⟩
  · refine ⟨?_, ?_, ?_, ?_, ?_, ?_, ?_, ?_, ?_, ?_, ?_, ?_, ?_, ?_, ?_, ?_, ?_, trivial⟩
    · show StepRS _ _ _ _ _ _ _ _ -- 23
      unfold StepRS
      intro L_ u w_ hj hd K hK
      clear hd
      have hc := hj.1
      clear hj hc
      go_simp
      exact hK.out _ rfl
    · show StepRS _ _ _ _ _ _ _ _ -- 24
      unfold StepRS
      intro L_ u w_ hj hd K hK
      have h23 : u 23 = .pointer (some ⟨r, 0, none⟩) := hd.get 0 (by kernel_rfl)
      clear hd
      simp only [h23] at hK
      have hc := hj.1
      clear hj hc
      go_simp
      exact hK.out _ rfl
    · show StepRS _ _ _ _ _ _ _ _ -- 25
      unfold StepRS
      intro L_ u w_ hj hd K hK
      have h24 : u 24 = .pointer (some ⟨r, 0, none⟩) := hd.get 1 (by kernel_rfl)
      clear hd
      simp only [h24] at hK
      have hc := hj.1
      clear hj hc
      go_simp
      exact hK.out _ rfl
    · show StepRS _ _ _ _ _ _ _ _ -- 26
      unfold StepRS
      intro L_ u w_ hj hd K hK
      have h25 : u 25 = .pointer (some ⟨r, 2, none⟩) := hd.get 2 (by kernel_rfl)
      clear hd
      simp only [h25] at hK
      have hc := hj.1
      obtain ⟨x0, x1, x2⟩ := cells3c (blk_keep HB.out hc (fun f => f))
      clear hj hc
      go_simp
      exact hK.out _ rfl
    · show StepRS _ _ _ _ _ _ _ _ -- 27
      unfold StepRS
      intro L_ u w_ hj hd K hK
      clear hd
      have hc := hj.1
      clear hj hc
      go_simp
      exact hK.out _ rfl
    · show StepRS _ _ _ _ _ _ _ _ -- 28
      unfold StepRS
      intro L_ u w_ hj hd K hK
      have h27 : u 27 = .pointer (some ⟨r, 0, none⟩) := hd.get 4 (by kernel_rfl)
      clear hd
      simp only [h27] at hK
      have hc := hj.1
      clear hj hc
      go_simp
      exact hK.out _ rfl
    · show StepRS _ _ _ _ _ _ _ _ -- 29
      unfold StepRS
      intro L_ u w_ hj hd K hK
      have h28 : u 28 = .pointer (some ⟨r, 0, none⟩) := hd.get 5 (by kernel_rfl)
      clear hd
      simp only [h28] at hK
      have hc := hj.1
      clear hj hc
      go_simp
      exact hK.out _ rfl
    · show StepRS _ _ _ _ _ _ _ _ -- 30
      unfold StepRS
      intro L_ u w_ hj hd K hK
      have h29 : u 29 = .pointer (some ⟨r, 0, none⟩) := hd.get 6 (by kernel_rfl)
      clear hd
      simp only [h29] at hK
      have hc := hj.1
      obtain ⟨x0, x1, x2⟩ := cells3c (blk_keep HB.out hc (fun f => f))
      clear hj hc
      go_simp
      exact hK.out _ rfl
    · show StepRS _ _ _ _ _ _ _ _ -- 31
      unfold StepRS
      intro L_ u w_ hj hd K hK
      clear hd
      have hc := hj.1
      clear hj hc
      go_simp
      exact hK.out _ rfl
    · show StepRS _ _ _ _ _ _ _ _ -- 32
      unfold StepRS
      intro L_ u w_ hj hd K hK
      have h31 : u 31 = .pointer (some ⟨r, 0, none⟩) := hd.get 8 (by kernel_rfl)
      clear hd
      simp only [h31] at hK
      have hc := hj.1
      clear hj hc
      go_simp
      exact hK.out _ rfl
    · show StepRS _ _ _ _ _ _ _ _ -- 33
      unfold StepRS
      intro L_ u w_ hj hd K hK
      have h32 : u 32 = .pointer (some ⟨r, 0, none⟩) := hd.get 9 (by kernel_rfl)
      clear hd
      simp only [h32] at hK
      have hc := hj.1
      clear hj hc
      go_simp
      exact hK.out _ rfl
    · show StepRS _ _ _ _ _ _ _ _ -- 34
      unfold StepRS
      intro L_ u w_ hj hd K hK
      have h33 : u 33 = .pointer (some ⟨r, 1, none⟩) := hd.get 10 (by kernel_rfl)
      clear hd
      simp only [h33] at hK
      have hc := hj.1
      obtain ⟨x0, x1, x2⟩ := cells3c (blk_keep HB.out hc (fun f => f))
      clear hj hc
      go_simp
      exact hK.out _ rfl
    · show StepWS _ _ _ _ _ _ _ _ _ -- 35
      unfold StepWS
      intro L_ u w_ hj hli hwt hd K hK
      have h26 : u 26 = .slice ua m uc := hd.get 3 (by kernel_rfl)
      have h30 : u 30 = .int .i64 (d : Int) := hd.get 7 (by kernel_rfl)
      have h34 : u 34 = .bool back := hd.get 11 (by kernel_rfl)
      clear hd
      simp only [h26, h30, h34] at hK
      obtain ⟨hc, hm⟩ := hj
      rcases hm with ⟨n35, n22, n36, n37, n6, hF⟩ | ⟨l35, _⟩
      · have m22 : ¬ L_ 13 = true := by rw [n22]; decide
        have m36 : ¬ L_ 14 = true := by rw [n36]; decide
        have m37 : ¬ L_ 15 = true := by rw [n37]; decide
        have m6 : ¬ L_ 16 = true := by rw [n6]; decide
        go_simp
        refine Calls.mono (HCD.out w_ hF) ?_
        rintro z w2 ⟨ov, rfl, hov, c2⟩
        skip
        exact hK.out _ w2 ⟨hc.trans c2 (fun z f => .inl f), .inr ⟨rfl, ov, rfl, (fun e => absurd e m22), (fun e => absurd e m36), (fun e => absurd e m37), (fun e => absurd e m6), owns_base hov hF.size⟩⟩ trivial
      · rw [l35] at hli; cases hli
    · show StepWS _ _ _ _ _ _ _ _ _ -- 22
      unfold StepWS
      intro L_ u w_ hj hli hwt hd K hK
      clear hd
      obtain ⟨hc, hm⟩ := hj
      have lopr : L_ 12 = true := hwt ⟨12, .data⟩ (by simp) rfl
      rcases hm with ⟨n35, n22, n36, n37, n6, hF⟩ | ⟨l35, ov, e35, q22, q36, q37, q6, hp⟩
      · rw [n35] at lopr; cases lopr
      · have eo := e35
        have HPH : Hid _ := hp
        clear hp
        simp only [eo] at hK ⊢
        go_simp
        exact hK.out _ _ ⟨hc, .inr ⟨l35, ov, e35, (fun _ => rfl), q36, q37, q6, HPH.out⟩⟩ trivial
    · show StepWS _ _ _ _ _ _ _ _ _ -- 36
      unfold StepWS
      intro L_ u w_ hj hli hwt hd K hK
      clear hd
      obtain ⟨hc, hm⟩ := hj
      have lopr : L_ 13 = true := hwt ⟨13, .data⟩ (by simp) rfl
      rcases hm with ⟨n35, n22, n36, n37, n6, hF⟩ | ⟨l35, ov, e35, q22, q36, q37, q6, hp⟩
      · rw [n22] at lopr; cases lopr
      · have eo := q22 lopr
        have HPH : Hid _ := hp
        clear hp
        simp only [eo, e35] at hK ⊢
        go_simp
        exact hK.out _ _ ⟨hc, .inr ⟨l35, ov, e35, q22, (fun _ => rfl), q37, q6, HPH.out⟩⟩ trivial
    · show StepWS _ _ _ _ _ _ _ _ _ -- 37
      unfold StepWS
      intro L_ u w_ hj hli hwt hd K hK
      clear hd
      obtain ⟨hc, hm⟩ := hj
      have lopr : L_ 13 = true := hwt ⟨13, .data⟩ (by simp) rfl
      rcases hm with ⟨n35, n22, n36, n37, n6, hF⟩ | ⟨l35, ov, e35, q22, q36, q37, q6, hp⟩
      · rw [n22] at lopr; cases lopr
      · have eo := q22 lopr
        have HPH : Hid _ := hp
        clear hp
        simp only [eo, e35] at hK ⊢
        go_simp
        exact hK.out _ _ ⟨hc, .inr ⟨l35, ov, e35, q22, q36, (fun _ => rfl), q6, HPH.out⟩⟩ trivial
    · show StepWS _ _ _ _ _ _ _ _ _ -- 6
      unfold StepWS
      intro L_ u w_ hj hli hwt hd K hK
      clear hd
      obtain ⟨hc, hm⟩ := hj
      have lopr : L_ 14 = true := hwt ⟨14, .data⟩ (by simp) rfl
      rcases hm with ⟨n35, n22, n36, n37, n6, hF⟩ | ⟨l35, ov, e35, q22, q36, q37, q6, hp⟩
      · rw [n36] at lopr; cases lopr
      · have eo := q36 lopr
        have HPH : Hid _ := hp
        clear hp
        simp only [eo, e35] at hK ⊢
        go_simp
        exact hK.out _ _ ⟨hc, .inr ⟨l35, ov, e35, q22, q36, q37, (fun _ => rfl), HPH.out⟩⟩ trivial
  · intro u_ w7 hj hA K hK
    obtain ⟨hc7, hm⟩ := hj
    rcases hm with ⟨nn, _⟩ | ⟨_, ov, eM, q22, q36, q37, q6, hp⟩
    · cases nn
    have e6 : u_ 6 = ov := q6 rfl
    have e37 : u_ 37 = .int .i64 0 := q37 rfl
    have HO : Hid (ByO w7 W0.heap.size ov (De19.cd back d (all ++ bs))) := hp
    have HC7 : Hid (Chg (fun _ => False) W0 w7) := hc7
    have hcl : (De19.cd back d (all ++ bs)).length = m := by rw [De19.cd_len, List.length_append, HA.out, HBL.out, hmE]
    obtain ⟨oa, oc, hov⟩ := byO_form hp
    rw [hcl] at hov
    subst hov
    obtain ⟨hro, _, hoc⟩ := byO_row hp
    have HRO : Hid (Row8 w7 oa m oc (nums (De19.cd back d (all ++ bs)))) := hro
    clear hA hc7 eM q22 q36 q37 q6 hp hcl hro
    simp only [e6, e37]
    go_simp
    refine hK.out _ _ ?_
    clear hK e6 e37
    have hAm : A ≤ m := by omega
    have hoci : (m : Int) ≤ (oc : Int) := by omega
    have hcut := run_cutZ_lo (E := 5) (size := 1) undBy elemBy sizeBy oa m oc A w7 (by omega)
    go_wp2
    go_ret
    refine ⟨_, _, _, rfl, ?_, _, ⟨HH.out.lo, blk_keep HB.out HC7.out (fun f => f), HBY.out.new HC7.out⟩, HC.out.trans HC7.out (fun _ f => f.elim), HM.out⟩
    have h9 := row8_part HRO.out hoc A (m - A) (by omega)
    rw [List.take_of_length_le (by rw [List.length_drop, De19.cd_len, List.length_append, HA.out, HBL.out]; omega)] at h9
    unfold De19.piece
    rw [HA.out]
    exact h9
end Go.Proofs.Ytefplppgkoanbaa
